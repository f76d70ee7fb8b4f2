import PyProof.Rows.All
import Wide.All
import OpenK.AllK
import Wide.FinOn
import Lean
import PyProof.EqAt
import PyProof.EqKinds
import PyProof.TupleCall
import PyProof.NeData
import KE.KTryMore
import PyProof.ExcBaseAll.ValueError
import PyProof.ExcArgsOwn
import KE.KIntText
import PyProof.Rows.SetFrom
import PyProof.SetRoads
import PyProof.StrWalks
import PyProof.ListStr
import PyProof.Rows.StrSplitCount
import PyProof.MeetsStr
import PyProof.MeetsStr2
import PyProof.StrOps2
import KE.KTryOn
import OpenK.KMake
import PyProof.ReprRoads
import PyProof.ReprLen
import PyProof.StrLawsRepr
import PyProof.CallFns
import KE.KSortTup
import PyProof.StrCalls6
import PyProof.MeetsStr3
import PyProof.CollectIter
import PySem.Challenge.RW_countgen_k59_whole_kinded_terms
set_option compiler.extract_closed false
set_option Elab.async false
set_option linter.all false
set_option maxRecDepth 100000
namespace L2
open PySem PySem.Spec PyProof.Rows
abbrev Key:=Sum Int Str
def UH:Key->Value->Bool
 | .inl k,v=>Value.isInt k v
 | .inr x,v=>Value.isStrOf x v
def Nq (w:World):Key->Int
 | .inl k=>hashInt k
 | .inr x=>hashStr w x
theorem Xf:∀ {k:Key} {v:Value},UH k v=true->(∃ i t,k=Sum.inl i/\v=Value.int i t)\/(∃ x t,k=Sum.inr x/\v=Value.str x t)
 | .inl i,v,h=>by
  obtain ⟨t,e⟩:=Value.isInt_shape (k:=i) (v:=v) h;exact .inl ⟨i,t,rfl,e⟩
 | .inr x,v,h=>by
  obtain ⟨t,e⟩:=Value.isStrOf_shape (x:=x) (v:=v) h;exact .inr ⟨x,t,rfl,e⟩
theorem O7 (i:Int) (t:Tok):UH (.inl i) (.int i t)=true:=by simp [UH,Value.isInt]
theorem O8 (x:Str) (t:Tok):UH (.inr x) (.str x t)=true:=by simp [UH,Value.isStrOf]
theorem O9 (a b:Int):decide ((Sum.inl a:Key)=Sum.inl b)=(a==b):=by
 by_cases e:a=b
 ·subst e;simp
 ·have h:¬ (Sum.inl a:Key)=Sum.inl b:=fun q=>e (Sum.inl.inj q)
  rw [decide_eq_false h];exact (beq_eq_false_iff_ne.mpr e).symm
theorem Pa (a b:Str):decide ((Sum.inr a:Key)=Sum.inr b)=decide (a=b):=by
 by_cases e:a=b
 ·subst e;simp
 ·have h:¬ (Sum.inr a:Key)=Sum.inr b:=fun q=>e (Sum.inr.inj q)
  rw [decide_eq_false h,decide_eq_false e]
theorem Pb (a:Int) (b:Str):decide ((Sum.inl a:Key)=Sum.inr b)=false:=decide_eq_false (fun q=>nomatch q)
theorem Pg (a:Str) (b:Int):decide ((Sum.inr a:Key)=Sum.inl b)=false:=decide_eq_false (fun q=>nomatch q)
def XZ (prog:Program) (w:World):PySem.KeyKind prog w Key where
 is:=UH
 hash:=Nq w
 inj:=fun v a b ha hb=>by
  rcases Xf ha with ⟨i,t,rfl,rfl⟩ | ⟨x,t,rfl,rfl⟩
  ·rcases Xf hb with ⟨j,u,rfl,e⟩ | ⟨y,u,rfl,e⟩
   ·injection e with e1 _;rw [e1]
   ·exact nomatch e
  ·rcases Xf hb with ⟨j,u,rfl,e⟩ | ⟨y,u,rfl,e⟩
   ·exact nomatch e
   ·injection e with e1 _;rw [e1]
 byValue:=fun k v h=>by
  rcases Xf h with ⟨i,t,rfl,rfl⟩ | ⟨x,t,rfl,rfl⟩<;>rfl
 pyHash:=fun hv h=>by
  rcases Xf hv with ⟨i,t,rfl,rfl⟩ | ⟨x,t,rfl,rfl⟩
  ·exact wpAny_pyHash_int h
  ·exact wpAny_pyHash_str h
 eqBool:=fun hu hv h=>by
  rcases Xf hu with ⟨i,t,rfl,rfl⟩ | ⟨x,t,rfl,rfl⟩
  ·rcases Xf hv with ⟨j,u,rfl,rfl⟩ | ⟨y,u,rfl,rfl⟩
   ·rw [O9] at h;exact wpAny_eqBool_int h
   ·rw [Pb] at h;exact SeqAt.EqAt.int_str i t y u _ _ _ _ h
  ·rcases Xf hv with ⟨j,u,rfl,rfl⟩ | ⟨y,u,rfl,rfl⟩
   ·rw [Pg] at h;exact SeqAt.EqAt.str_int x t j u _ _ _ _ h
   ·rw [Pa] at h;exact wpAny_eqBool_str h
 «strs»:=fun k x t v h=>by
  rcases Xf h with ⟨i,u,rfl,e⟩ | ⟨y,u,rfl,e⟩
  ·exact nomatch e
  ·injection e with e1 _
   subst e1
   cases v<;>rfl
theorem Ph (prog:Program) (w:World) (i:Int) (t:Tok):(XZ prog w).is (.inl i) (.int i t)=true:=O7 i t
theorem Pj (prog:Program) (w:World) (x:Str) (t:Tok):(XZ prog w).is (.inr x) (.str x t)=true:=O8 x t
inductive V where
 | non | bl (b:Bool) | int (i:Int) | str (x:Str) | eU (b:Array UInt8) | flt (b:UInt64) | ref (a:Addr) | ty (n:String)
 deriving DecidableEq
def YF:V->Value->Prop
 | .non,u=>u=Value.none
 | .bl b,u=>u=Value.bool b
 | .int i,u=>∃ t,u=Value.int i t
 | .str x,u=>∃ t,u=Value.str x t
 | .eU b,u=>∃ t,u=Value.bytes b t
 | .flt b,u=>∃ t,u=Value.float b t
 | .ref a,u=>u=Value.ref a
 | .ty n,u=>u=Value.type n
abbrev Yx:List V->List Value->Prop:=Paired YF
theorem Yx.length {xs:List V} {us:List Value} (r:Yx xs us):xs.length=us.length:=Paired.length r
theorem Yx.get:∀ {xs:List V} {us:List Value} {i:Nat} {x:V},Yx xs us->xs[i]?=some x->∃ u,us[i]?=some u/\YF x u
 | _,_,_,_,.nil,e=>by simp at e
 | _,_,0,_,.cons r _,e=>by simp at e;subst e;exact ⟨_,rfl,r⟩
 | _,_,i+1,x,.cons _ t,e=>by
  obtain ⟨u,h1,h2⟩:=Yx.get (i:=i) (x:=x) t (by simpa using e);exact ⟨u,by simpa using h1,h2⟩
theorem Yx.append:∀ {xs ys:List V} {us ws:List Value},Yx xs us->Yx ys ws->Yx (xs++ys) (us++ws)
 | _,_,_,_,.nil,s=>s
 | _,_,_,_,.cons r t,s => .cons r (Yx.append t s)
theorem Yx.take:∀ {xs:List V} {us:List Value} (n:Nat),Yx xs us->Yx (xs.take n) (us.take n)
 | _,_,0,_ => .nil
 | _,_,_+1,.nil => .nil
 | _,_,n+1,.cons r t => .cons r (Yx.take n t)
theorem Yx.drop:∀ {xs:List V} {us:List Value} (n:Nat),Yx xs us->Yx (xs.drop n) (us.drop n)
 | _,_,0,r=>r
 | _,_,_+1,.nil => .nil
 | _,_,n+1,.cons _ t=>Yx.drop n t
def VE:Option V->Option Value->Prop
 | some v,some u=>YF v u
 | none,none=>True
 | _,_=>False
def KV {κ:Type}:List (κ×V)->List (κ×Value)->Prop:=Paired fun (p:κ×V) (q:κ×Value)=>p.1=q.1/\YF p.2 q.2
def kV:Key->V
 | .inl i => .int i
 | .inr x => .str x
inductive HO where
 /-- a list -/
 | lst (xs:List V)
 /-- a tuple (never changes) -/
 | tup (xs:List V)
 /-- a dict whose keys are ints and texts;one whose keys are tuples of ints and texts (the empty one is both) -/
 | dK (kvs:List (Key×V)) | dT (kvs:List (List Key×V))
 /-- a set of ints: its members,its size -/
 | set (S:Int->Bool) (n:Nat)
 /-- an instance of the class at C,its dict at dx,its attributes -/
 | ins (C dx:Addr) (fs:List (Str×V))
 /-- the dict of the instance at x -/
 | own (x:Addr)
 /-- the dict of an exception -/
 | xd (fs:List (Str×V))
 /-- a bound method,f of x -/
 | met (f x:Addr)
 /-- a range object lo,lo+1,.. below hi -/
 | rng (lo hi:Int)
 /-- a thing that is known to the object (the script;a dict while a loop walks it): read,never written while it is so -/
 | cQ (o:Obj) (u:HO)
 /-- a code object's table -/
 | gK (ps:Array Value)
 /-- any other thing,by what is true of its one object (a def of one's own: Nr a S n:=HO.ext fun h => ..) -/
 | ext (φ:Heap->Prop)
abbrev Hp:=Addr->Option HO
def upd (H:Hp) (a:Addr) (o:HO):Hp:=fun b=>if b=a then some o else H b
theorem Yd {H:Hp} {a:Addr} {o:HO}:upd H a o a=some o:=by unfold upd;rw [if_pos rfl]
theorem Yg {H:Hp} {a b:Addr} {o:HO} (h:b≠a):upd H a o b=H b:=by unfold upd;rw [if_neg h]
theorem Xh {H:Hp} {a b:Addr} {o u:HO} (h:H a=some o) (h':H b=some u) (d:o≠u):a≠b:=by
 intro e;subst e;rw [h] at h';exact d (Option.some.inj h')
theorem Yt {H:Hp} {a b:Addr} {o:HO} (h:H a=some o) (h':H b=none):a≠b:=by
 intro e;subst e;rw [h] at h';cases h'
section
variable (P:Program) (w:World)
def Y1 (H:Hp) (h:Heap) (a:Addr):HO->Prop
 | .lst xs=>xs.length<=sizeLine/\∃ (its:List Value) (n:Nat),Yx xs its/\h.get? a=some { cls := .type "list",data := .seq its.toArray n }
 | .tup xs=>xs.length<=sizeLine/\∃ its:List Value,Yx xs its/\IsTup h a its.toArray
 | .dK kvs=>kvs.length<=sizeLine/\(a==sysModules)=false/\∃ vs,KV kvs vs/\h.DictOf (XZ P w) a vs
 | .dT kvs=>kvs.length<=sizeLine/\(a==sysModules)=false/\∃ xs:List (List Key×Addr×Value),
   Paired (fun (p:List Key×V) (q:List Key×Addr×Value)=>p.1=q.1/\H q.2.1=some (.tup (p.1.map kV))/\YF p.2 q.2.2) kvs xs /\
   ∃ o es ep,h.get? a=some o/\o.ExactDict/\o.data = .dict es ep/\es.toList=xs.map (entryOfKey (tupleKind (XZ P w)))/\(xs.map (·.1)).Nodup
 | .set S n=>h.SetOf (intKind P w) a S n
 | .ins C dx fs=>H dx=some (.own a)/\fs.length<=1000/\dx≠a/\h.get? a=some (W.instObj C dx) /\
   ∃ mA,h.Ns1 dx mA/\(∀ f,VE (fs.lookup f) (mA f))/\PySem.Within mA (fs.map (·.1))
 | .own _=>∃ o,h.get? a=some o
 | .xd fs=>∃ mA,h.Ns1 a mA/\∀ f,VE (fs.lookup f) (mA f)
 | .rng lo hi=>∃ t u v,h.get? a=some { cls := .type "range",data := .fields #[.int lo t,.int hi u,.int 1 v] }
 | .cQ o u=>h.get? a=some o/\Y1 H h a u
 | .gK ps=>h.get? a=some { cls := .none,data := .fields ps }
 | .met f x=>h.get? a=some (W.methodObj (.ref f) (.ref x))
 | .ext φ=>φ h/\(∃ o,h.get? a=some o)/\∀ h1 h2:Heap,φ h1->(∀ o,h1.get? a=some o->h2.get? a=some o)->φ h2
def bL (H:Hp) (h:Heap):Prop:=∀ a o,H a=some o->Y1 P w H h a o
end
section
variable {P:Program} {w:World} {H H':Hp} {h h':Heap} {a:Addr} {o:HO}
theorem Y1.lt (x:Y1 P w H h a o):a<h.objs.size:=by
 cases o with
 | lst xs=>obtain ⟨_,_,_,_,e⟩:=x;exact Heap.lt_size e
 | tup xs=>obtain ⟨_,_,_,p⟩:=x;exact p.lt
 | dK kvs=>obtain ⟨_,_,_,_,o,_,_,e,_⟩:=x;exact Heap.lt_size e
 | dT kvs=>obtain ⟨_,_,_,_,o,_,_,e,_⟩:=x;exact Heap.lt_size e
 | set S n=>obtain ⟨o,_,_,_,e,_⟩:=x;exact Heap.lt_size e
 | ins C dx fs=>obtain ⟨_,_,_,e,_⟩:=x;exact Heap.lt_size e
 | own y=>obtain ⟨_,e⟩:=x;exact Heap.lt_size e
 | xd fs=>obtain ⟨_,⟨_,_,_,e,_⟩,_⟩:=x;exact Heap.lt_size e
 | rng lo hi=>obtain ⟨_,_,_,e⟩:=x;exact Heap.lt_size e
 | cQ ob u=>obtain ⟨e,_⟩:=x;exact Heap.lt_size e
 | gK ps=>exact Heap.lt_size (show h.get? a=some _ from x)
 | met f y=>exact Heap.lt_size (show h.get? a=some _ from x)
 | ext φ=>obtain ⟨_,⟨_,e⟩,_⟩:=x;exact Heap.lt_size e
theorem Paired.vN {α β:Type} {F G:α->β->Prop}:∀ {l₁:List α} {l₂:List β},Paired F l₁ l₂->(∀ a b,F a b->G a b)->Paired G l₁ l₂
 | _,_,.nil,_ => .nil
 | _,_,.cons r t,f => .cons (f _ _ r) (Paired.vN t f)
theorem Y1.stay (x:Y1 P w H h a o) (k:∀ b u,(b=a\/H b=some (.own a))->h.get? b=some u->h'.get? b=some u)
  (ho:∀ b,H b=some (.own a)->H' b=some (.own a)) (ht:∀ b xs,H b=some (.tup xs)->H' b=some (.tup xs)):Y1 P w H' h' a o:=by
 induction o with
 | lst xs=>obtain ⟨z,its,n,r,e⟩:=x;exact ⟨z,its,n,r,k _ _ (.inl rfl) e⟩
 | tup xs=>obtain ⟨z,its,r,ob,e,c⟩:=x;exact ⟨z,its,r,ob,k _ _ (.inl rfl) e,c⟩
 | dK kvs=>obtain ⟨z,y,vs,r,ob,es,ep,e,c⟩:=x;exact ⟨z,y,vs,r,ob,es,ep,k _ _ (.inl rfl) e,c⟩
 | dT kvs =>
  obtain ⟨z,y,xs,r,ob,es,ep,e,c⟩:=x;exact ⟨z,y,xs,Paired.vN r fun p q z=>⟨z.1,ht _ _ z.2.1,z.2.2⟩,ob,es,ep,k _ _ (.inl rfl) e,c⟩
 | set S n=>obtain ⟨ob,es,ep,t,e,c⟩:=x;exact ⟨ob,es,ep,t,k _ _ (.inl rfl) e,c⟩
 | ins C dx fs =>
  obtain ⟨d,z,ne,e,mA,⟨od,es,ep,e2,c⟩,r⟩:=x;exact ⟨ho _ d,z,ne,k _ _ (.inl rfl) e,mA,⟨od,es,ep,k _ _ (.inr d) e2,c⟩,r⟩
 | own y=>obtain ⟨ob,e⟩:=x;exact ⟨ob,k _ _ (.inl rfl) e⟩
 | xd fs=>obtain ⟨mA,⟨od,es,ep,e,c⟩,r⟩:=x;exact ⟨mA,⟨od,es,ep,k _ _ (.inl rfl) e,c⟩,r⟩
 | rng lo hi=>obtain ⟨t,u,v,e⟩:=x;exact ⟨t,u,v,k _ _ (.inl rfl) e⟩
 | cQ ob u ih=>obtain ⟨e,q⟩:=x;exact ⟨k _ _ (.inl rfl) e,ih q⟩
 | gK ps =>
  have e:h.get? a=some { cls := .none,data := .fields ps }:=x
  show h'.get? a=some { cls := .none,data := .fields ps }
  exact k a _ (.inl rfl) e
 | met f y =>
  have e:h.get? a=some (W.methodObj (.ref f) (.ref y)):=x
  show h'.get? a=some (W.methodObj (.ref f) (.ref y))
  exact k a _ (.inl rfl) e
 | ext φ=>obtain ⟨p,⟨o,e⟩,st⟩:=x;exact ⟨st _ _ p fun o q=>k _ _ (.inl rfl) q,⟨o,k _ _ (.inl rfl) e⟩,st⟩
theorem bL.lt (x:bL P w H h) (e:H a=some o):a<h.objs.size:=(x a o e).lt
theorem bL.fresh (x:bL P w H h) (e:h.objs.size<=a):H a=none:=by
 cases q:H a with
 | none=>rfl
 | some u=>exact absurd (Nat.lt_of_lt_of_le (x.lt q) e) (Nat.lt_irrefl _)
theorem bL.kept (x:bL P w H h) (k:∀ b u,h.get? b=some u->h'.get? b=some u):bL P w H h':=fun a o e =>
 (x a o e).stay (fun b u _ q=>k b u q) (fun _ q=>q) fun _ _ q=>q
theorem bL.laid (x:bL P w H h) (k:∀ b u,h.get? b=some u->h'.get? b=some u) (hp:h.objs.size<=a) (new:Y1 P w (upd H a o) h' a o):bL P w (upd H a o) h':=fun b u e=>by
 have hn:=x.fresh hp;by_cases hb:b=a
 ·subst hb;rw [Yd] at e;cases e;exact new
 ·rw [Yg hb] at e
  exact (x b u e).stay (fun c v _ q=>k c v q) (fun c q=>by rw [Yg (Yt q hn)];exact q) fun c xs q=>by rw [Yg (Yt q hn)];exact q
end
def Rd (H:Hp) (a:Addr) (u:HO):Prop:=H a=some u\/∃ o,H a=some (.cQ o u)
theorem Rd.of {H:Hp} {a:Addr} {u:HO} (h:H a=some u):Rd H a u := .inl h
theorem Rd.ok {P:Program} {w:World} {H:Hp} {h:Heap} {a:Addr} {u:HO} (r:Rd H a u) (x:bL P w H h):Y1 P w H h a u:=by
 rcases r with r | ⟨o,r⟩
 ·exact x a u r
 ·obtain ⟨_,q⟩:=x a _ r
  exact q
def pB:Option HO->Prop
 | some (.lst _)=>True
 | some (.dK _)=>True
 | some (.dT _)=>True
 | some (.set _ _)=>True
 | some (.ins _ _ _)=>True
 | some (.ext _)=>True
 | _=>False
section
variable {P:Program} {w:World} {H:Hp} {h h':Heap} {x e:Addr} {o':HO}
theorem bL.write (ok:bL P w H h) (mu:pB (H x)) (he:e=x\/H e=some (.own x)) (k:∀ b u,b≠e->h.get? b=some u->h'.get? b=some u) (heo:∃ u,h'.get? e=some u)
  (new:Y1 P w (upd H x o') h' x o'):bL P w (upd H x o') h':=fun b u q=>by
 have vO:∀ c y,H c=some (.own y)->c≠x:=fun c y r z=>by subst z;rw [r] at mu;exact mu
 have Nt:∀ c xs,H c=some (.tup xs)->c≠x:=fun c xs r z=>by subst z;rw [r] at mu;exact mu
 by_cases hb:b=x
 ·subst hb;rw [Yd] at q;cases q;exact new
 ·rw [Yg hb] at q
  by_cases hbe:b=e
  ·have q':H b=some (.own x):=by
    rcases he with z | z
    ·exact absurd (hbe.trans z) hb
    ·rw [hbe];exact z
   rw [q] at q';cases q'
   obtain ⟨v,hv⟩:=heo;exact ⟨v,by rw [hbe];exact hv⟩
  ·refine (ok b u q).stay (fun c v hc r=>k c v ?_ r) (fun c r=>by rw [Yg (vO c b r)];exact r) fun c xs r=>by rw [Yg (Nt c xs r)];exact r
   rcases hc with rfl | hc
   ·exact hbe
   ·rintro rfl
    rcases he with z | z
    ·exact vO c b hc z
    ·rw [hc] at z;cases z;exact hb rfl
end
structure Un (fs ex:List Addr) (H H':Hp) (h h':Heap):Prop where
 keep:∀ b o,h.get? b=some o->H b=none->b∉fs->b∉ex->h'.get? b=some o
 slot:∀ b o,h.get? b=some o->H b=none->b∈fs->b∉ex->∃ sl,h'.get? b=some { o with slots:=sl }
 free:∀ b o,h.get? b=some o->H b=none->b∉ex->H' b=none
 there:∀ b o,h.get? b=some o->b∉ex->∃ o',h'.get? b=some o'
 tups:∀ b xs,H b=some (.tup xs)->H' b=some (.tup xs)
 dj:∀ b o u,H b=some (.cQ o u)->H' b=some (.cQ o u)
 dW:∀ b ps,H b=some (.gK ps)->∃ more,H' b=some (.gK (ps++more))
section
variable {fs fs' ex ex':List Addr} {H H1 H2:Hp} {h h1 h2 h':Heap} {a x e:Addr} {o:HO}
theorem Un.any (u:Un fs ex H H1 h h1) {b:Addr} {ob:Obj} (q:h.get? b=some ob) (n:H b=none) (hx:b∉ex):∃ sl,h1.get? b=some { ob with slots:=sl }:=by
 by_cases hb:b∈fs
 ·exact u.slot b ob q n hb hx
 ·exact ⟨ob.slots,u.keep b ob q n hb hx⟩
theorem Un.kept (k:∀ b u,h.get? b=some u->h'.get? b=some u):Un fs ex H H h h' :=
 ⟨fun b ob q _ _ _=>k b ob q,fun b ob q _ _ _=>⟨ob.slots,k b ob q⟩,fun _ _ _ n _=>n,fun b ob q _=>⟨ob,k b ob q⟩,fun _ _ q=>q,fun _ _ _ q=>q,fun _ ps q=>⟨#[],by rw [q];simp⟩⟩
theorem Un.refl:Un fs ex H H h h:=Un.kept fun _ _ q=>q
theorem Un.laid (k:∀ b u,h.get? b=some u->h'.get? b=some u) (hp:h.objs.size<=a) (hn:H a=none):Un fs ex H (upd H a o) h h' where
 keep:=fun b u q _ _ _=>k b u q
 slot:=fun b u q _ _ _=>⟨u.slots,k b u q⟩
 free:=fun b u q n _=>by rw [Yg (Nat.ne_of_lt (Nat.lt_of_lt_of_le (Heap.lt_size q) hp))];exact n
 there:=fun b u q _=>⟨u,k b u q⟩
 tups:=fun b xs q=>by rw [Yg (Yt q hn)];exact q
 dj:=fun b u xs q=>by rw [Yg (Yt q hn)];exact q
 dW:=fun b ps q=>⟨#[],by rw [Yg (Yt q hn),q];simp⟩
theorem Un.write (mu:pB (H x)) (he:e=x\/H e=some (.own x)) (k:∀ b u,b≠e->h.get? b=some u->h'.get? b=some u) (heo:∃ u,h'.get? e=some u):Un fs ex H (upd H x o) h h':=by
 have hx:∀ b,H b=none->b≠x:=fun b n z=>by subst z;rw [n] at mu;exact mu
 have hb:∀ b,H b=none->b≠e:=fun b n z=>by
  subst z;rcases he with r | r
  ·exact hx b n r
  ·rw [n] at r;cases r
 have hm:∀ b u,H b=some u->¬ pB (some u)->b≠x:=fun b u q nm z=>by subst z;rw [q] at mu;exact nm mu
 refine ⟨fun b u q n _ _=>k b u (hb b n) q,fun b u q n _ _=>⟨u.slots,k b u (hb b n) q⟩,fun b u q n _=>by rw [Yg (hx b n)];exact n,fun b u q _=>?_,
  fun b xs q=>by rw [Yg (hm b _ q fun z=>z)];exact q,fun b u xs q=>by rw [Yg (hm b _ q fun z=>z)];exact q,fun b ps q=>⟨#[],by rw [Yg (hm b _ q fun z=>z),q];simp⟩⟩
 by_cases hbe:b=e
 ·subst hbe;exact heo
 ·exact ⟨u,k b u hbe q⟩
end
def tG (h:Heap) (H:Hp):List Addr:=(List.range h.objs.size).filter fun a=>(H a).isSome
def V5 (h:Heap) (H:Hp):Heap:=W.hideAll h (tG h H)
theorem Pk (h:Heap) (H:Hp):(V5 h H).objs.size=h.objs.size:=W.hideAll_size _ _
theorem Pn {h:Heap} {H:Hp} {b:Addr} {o:Obj} (e:h.get? b=some o) (n:H b=none):(V5 h H).get? b=some o :=
 W.hideAll_get _ e fun hm=>by
  have q:(H b).isSome=true:=(List.mem_filter.mp hm).2;rw [n] at q;simp at q
theorem Pq {h:Heap} {H:Hp} {b:Addr} {o:Obj} (e:(V5 h H).get? b=some o):h.get? b=some o/\H b=none:=by
 have e':h.get? b=some o:=W.of_hideAll (tG h H) e;refine ⟨e',?_⟩
 cases q:H b with
 | none=>rfl
 | some x =>
  have hm:b∈tG h H:=List.mem_filter.mpr ⟨List.mem_range.mpr (Heap.lt_size e'),by simp [q]⟩;have z:(V5 h H).get? b=none:=W.hideAll_none (tG h H) hm;rw [z] at e;cases e
def Pr (g h:Heap) (L:Addr):List (Addr×Obj):=(List.range h.objs.size).filterMap fun a=>if a=L\/(g.get? a).isSome=true then none else (h.get? a).map fun o=>(a,o)
def Y0 (g h:Heap) (L d:Addr):List (Addr×Obj):=(Pr g h L).filter fun p=>decide (p.1≠d)
structure Mod (K:W.Frag) (mg:Str->Option Value) (base:Heap):Prop where
 jg:K.In base
 glob:base.Ns mainGlobals mg
 blt:∃ mb,base.Ns builtinsNs mb/\∀ x:Str,x≠"__name__"->mb x=bootBuiltins x
 nolimit:base.NoLimit
structure Cx where
 prog:Program
 w:World
 K:W.Frag
 mg:Str->Option Value
 base:Heap
 A:Around
 N:List Str
 s₀:Shared
 H₀:Hp
 env:Env
 outer:List Env
 stack:List Env
 ex:List Addr
 fn:Str->Bool
 calm:Bool
 pn:List (Addr×Obj)
 xe:Value->Shared->Prop
def frs (l:List Env):List Addr:=l.filterMap (·.frame)
abbrev Cx.fs (X:Cx):List Addr:=frs X.outer
def tH (sc:Scope) (x:Str):Prop:=sc.names.lookup x=some .local\/sc.names.lookup x=some .cell\/sc.names.lookup x=some .free
def Loc (sc:Scope) (x:Str):Prop:=sc.names.lookup x=some .local\/sc.names.lookup x=some .cell
def Look (env:Env) (h:Heap) (m:Str->Option Value) (x:Str) (u:Value):Prop :=
 (env.kindOf x=some .local/\m x=some u)\/((env.kindOf x=some .cell\/env.kindOf x=some .free)/\∃ c,env.cells.lookup x=some c/\h.IsCell c (some u))
structure Cx.Ok (X:Cx):Prop where
 mod:Mod X.K X.mg X.base
 kind:X.env.scope.kind = .function
 glob:X.env.globals=mainGlobals
 blt:X.env.builtins=builtinsNs
 above:X.s₀.heap.objs.size<=X.env.locals
 inj:∀ x y c,X.env.cells.lookup x=some c->X.env.cells.lookup y=some c->x=y
 has:∀ x,(X.env.kindOf x=some .cell\/X.env.kindOf x=some .free)->∃ c,X.env.cells.lookup x=some c
 cab:∀ x c,X.fn x=true->X.env.cells.lookup x=some c->X.s₀.heap.objs.size<=c
 hd:X.calm=true->X.A.handled=none
 frames:X.A.frames=some X.stack
 stk:X.stack=X.outer\/(X.stack=X.env::X.outer/\X.env.frame=some X.env.locals)
 Et:∀ b∈X.ex,b≠X.env.locals/\∀ x c,X.env.cells.lookup x=some c->c≠b
 bs:∀ b o,X.base.get? b=some o->X.s₀.heap.get? b=some o/\X.H₀ b=none
 gO:X.base.objs.size<=X.s₀.heap.objs.size
 jh:∀ b o,X.base.get? b=some o->b∉X.ex
 nF:∀ b∈X.ex,b∉X.fs
 cU:X.s₀.heap.FunFrames X.base X.outer
 ji:∀ b∈X.fs,X.H₀ b=none
structure Inv (X:Cx) (pins:List (Addr×Obj)) (σ:List (Option V)) (H:Hp) (s:Shared):Prop where
 ok:X.Ok
 os:s.os=X.s₀.os
 bare:AllBare s.gens
 base:Un X.fs X.ex X.H₀ H X.s₀.heap s.heap
 loc:∃ m,s.heap.Ns X.env.locals m/\∀ (i:Nat) (x:Str) (v:V),X.N[i]?=some x->σ[i]?=some (some v)->tH X.env.scope x->∃ u,YF v u/\Look X.env s.heap m x u
 cell:∀ x c,X.env.cells.lookup x=some c->∃ v,s.heap.IsCell c v
 free:H X.env.locals=none
 cP:∀ x c,X.env.cells.lookup x=some c->H c=none
 pin:∀ p∈X.pn++pins,s.heap.get? p.1=some p.2/\H p.1=none/\p.1≠X.env.locals/\p.1∉X.fs/\∀ v,p.2.data ≠ .cell v
 hok:bL X.prog X.w H s.heap
 len:σ.length=X.N.length
section
variable {X:Cx} {pins:List (Addr×Obj)} {σ:List (Option V)} {H H':Hp} {s:Shared} {h':Heap}
theorem Cx.Ok.Nu (ok:X.Ok) {b:Addr} {o:Obj} (e:X.base.get? b=some o):b∉X.fs:=fun hb=>by
 have:=(ok.cU.mem hb).1;rw [e] at this;cases this
theorem Inv.bs (I:Inv X pins σ H s):∀ b o,X.base.get? b=some o->s.heap.get? b=some o/\H b=none:=fun b o e =>
 ⟨I.base.keep b o (I.ok.bs b o e).1 (I.ok.bs b o e).2 (I.ok.Nu e) (I.ok.jh b o e),I.base.free b o (I.ok.bs b o e).1 (I.ok.bs b o e).2 (I.ok.jh b o e)⟩
theorem Inv.bk (I:Inv X pins σ H s):∀ b o,X.base.get? b=some o->s.heap.get? b=some o:=fun b o e=>(I.bs b o e).1
theorem Inv.mod (I:Inv X pins σ H s):Mod X.K X.mg X.base:=I.ok.mod
theorem Inv.bA (I:Inv X pins σ H s):X.K.In s.heap:=I.ok.mod.jg.keeps I.bk
theorem Inv.lt (I:Inv X pins σ H s):X.env.locals<s.heap.objs.size:=let ⟨_,hn,_⟩:=I.loc;hn.lt
theorem Inv.sz (I:Inv X pins σ H s):X.s₀.heap.objs.size<=s.heap.objs.size:=Nat.le_trans I.ok.above (Nat.le_of_lt I.lt)
theorem Inv.Nv (I:Inv X pins σ H s) {a:Addr} (h:s.heap.objs.size<=a):a∉X.fs:=fun hb=>by
 obtain ⟨_,o,ho,_⟩:=I.ok.cU.mem hb;exact absurd (Nat.lt_of_lt_of_le (Heap.lt_size ho) (Nat.le_trans I.sz h)) (Nat.lt_irrefl _)
theorem Inv.jk (I:Inv X pins σ H s):∀ x c,X.env.cells.lookup x=some c->c≠X.env.locals:=fun x c e z=>by
 obtain ⟨v,o,ho,hd⟩:=I.cell x c e;obtain ⟨m,⟨o',es,ep,ho',hd',_⟩,_⟩:=I.loc;rw [z,ho'] at ho;cases ho;rw [hd'] at hd;cases hd
theorem Inv.cU (I:Inv X pins σ H s):s.heap.FunFrames X.base X.outer:=by
 have all:∀ (l:List Env),(∀ b∈frs l,b∈X.fs)->X.s₀.heap.FunFrames X.base l->s.heap.FunFrames X.base l:=by
  intro l
  induction l with
  | nil=>intro _ _;trivial
  | cons env r ih =>
   intro hs hl;obtain ⟨hk,⟨L,o,hf,hn,ho,hd⟩,hr⟩:=hl;have hL:L∈X.fs:=hs L (by unfold frs;rw [List.filterMap_cons,hf];exact List.mem_cons_self);obtain ⟨sl,e⟩:=I.base.slot L o ho (I.ok.ji L hL) hL fun z=>I.ok.nF L z hL
   exact ⟨hk,⟨L,_,hf,hn,e,hd⟩,ih (fun b hb=>hs b (by unfold frs;rw [List.filterMap_cons,hf];exact List.mem_cons_of_mem _ hb)) hr⟩
 exact all X.outer (fun _ hb=>hb) I.ok.cU
theorem Inv.stack (I:Inv X pins σ H s):s.heap.FunFrames X.base X.stack:=by
 rcases I.ok.stk with e | ⟨e,hf⟩
 ·rw [e];exact I.cU
 ·rw [e]
  obtain ⟨m,hn,_⟩:=I.loc;refine .cons (by rw [I.ok.kind];decide) hf hn ?_ I.cU;exact Heap.get?_none_of_le (Nat.le_trans I.ok.gO I.ok.above)
theorem Inv.fj (I:Inv X pins σ H s):∀ b∈frs X.stack,b∈X.env.locals::X.fs:=fun b hb=>by
 rcases I.ok.stk with e | ⟨e,hf⟩
 ·rw [e] at hb;exact List.mem_cons_of_mem _ hb
 ·rw [e] at hb
  unfold frs at hb;rw [List.filterMap_cons,hf] at hb
  exact hb
theorem Inv.mz (I:Inv X pins σ H s):∀ b∈frs X.stack,H b=none:=fun b hb=>by
 rcases List.mem_cons.mp (I.fj b hb) with e | hb
 ·rw [e];exact I.free
 ·obtain ⟨_,o,ho,_⟩:=I.ok.cU.mem hb
  exact I.base.free b o ho (I.ok.ji b hb) fun z=>I.ok.nF b z hb
theorem Inv.step {g':Array GenState} {t':Nat} {d':Drawn} {ch:List Addr} (I:Inv X pins σ H s)
  (hch:∀ b∈ch,(b∈X.ex\/X.s₀.heap.objs.size<=b)/\b≠X.env.locals/\(∀ x c,X.env.cells.lookup x=some c->c≠b)/\∀ p∈X.pn++pins,p.1≠b)
  (keep:∀ b o,b≠X.env.locals->b∉X.fs->b∉ch->s.heap.get? b=some o->H b=none->h'.get? b=some o)
  (slot:∀ b o,b≠X.env.locals->b∈X.fs->b∉ch->s.heap.get? b=some o->H b=none->∃ sl,h'.get? b=some { o with slots:=sl }) (free:∀ b o,b∉ch->s.heap.get? b=some o->H b=none->H' b=none)
  (there:∀ b o,b∉ch->s.heap.get? b=some o->∃ o',h'.get? b=some o')
  (tups:∀ b xs,H b=some (.tup xs)->H' b=some (.tup xs)) (dj:∀ b o u,H b=some (.cQ o u)->H' b=some (.cQ o u)) (dW:∀ b ps,H b=some (.gK ps)->∃ more,H' b=some (.gK (ps++more)))
  (ns:∀ m,s.heap.Ns X.env.locals m->h'.Ns X.env.locals m) (hok:bL X.prog X.w H' h') (hg:AllBare g') :
  Inv X pins σ H' { s with heap:=h',gens:=g',drawn:=d',toks:=t' }:=by
 have Eu:∀ b o,X.s₀.heap.get? b=some o->b≠X.env.locals:=fun b o e=>Nat.ne_of_lt (Nat.lt_of_lt_of_le (Heap.lt_size e) I.ok.above)
 have tK:∀ b o,X.s₀.heap.get? b=some o->b∉X.ex->b∉ch:=fun b o e hx hb=>by
  rcases (hch b hb).1 with z | z
  ·exact hx z
  ·exact absurd (Nat.lt_of_lt_of_le (Heap.lt_size e) z) (Nat.lt_irrefl _)
 have cellK:∀ x c,X.env.cells.lookup x=some c->∀ v,s.heap.IsCell c v->h'.IsCell c v:=fun x c e v ⟨o,ho,hd⟩=>by
  have pC:c∉ch:=fun z=>(hch c z).2.2.1 x c e rfl
  by_cases hc:c∈X.fs
  ·obtain ⟨sl,q⟩:=slot c o (I.jk x c e) hc pC ho (I.cP x c e)
   exact ⟨_,q,hd⟩
  ·exact ⟨o,keep c o (I.jk x c e) hc pC ho (I.cP x c e),hd⟩
 refine ⟨I.ok,I.os,hg,⟨fun b o e n hb hx=>?_,fun b o e n hb hx=>?_,fun b o e n hx=>?_,fun b o e hx=>?_,fun b xs e=>tups b xs (I.base.tups b xs e),fun b o xs e=>dj b o xs (I.base.dj b o xs e),fun b ps e=>?_⟩,?_,fun x c e=>?_,?_,fun x c e=>?_,fun p hp=>?_,hok,I.len⟩
 ·exact keep b o (Eu b o e) hb (tK b o e hx) (I.base.keep b o e n hb hx) (I.base.free b o e n hx)
 ·obtain ⟨sl,e1⟩:=I.base.slot b o e n hb hx
  obtain ⟨sl',e2⟩:=slot b _ (Eu b o e) hb (tK b o e hx) e1 (I.base.free b o e n hx);exact ⟨sl',e2⟩
 ·obtain ⟨o',e1⟩:=I.base.there b o e hx
  exact free b o' (tK b o e hx) e1 (I.base.free b o e n hx)
 ·obtain ⟨o',e1⟩:=I.base.there b o e hx
  exact there b o' (tK b o e hx) e1
 ·obtain ⟨m1,e1⟩:=I.base.dW b ps e
  obtain ⟨m2,e2⟩:=dW b _ e1;exact ⟨m1++m2,by rw [e2,Array.append_assoc]⟩
 ·obtain ⟨m,hn,hl⟩:=I.loc
  refine ⟨m,ns m hn,fun i x v e1 e2 e3=>?_⟩;obtain ⟨u,r,l⟩:=hl i x v e1 e2 e3;refine ⟨u,r,?_⟩;rcases l with l | ⟨k,c,e,z⟩
  ·exact .inl l
  ·exact .inr ⟨k,c,e,cellK x c e _ z⟩
 ·obtain ⟨v,z⟩:=I.cell x c e
  exact ⟨v,cellK x c e v z⟩
 ·obtain ⟨m,⟨o,_,_,ho,_⟩,_⟩:=I.loc
  exact free _ o (fun z=>(hch _ z).2.1 rfl) ho I.free
 ·obtain ⟨v,o,ho,hd⟩:=I.cell x c e
  exact free c o (fun z=>(hch c z).2.2.1 x c e rfl) ho (I.cP x c e)
 ·obtain ⟨e,n,ne,nf,d⟩:=I.pin p hp
  have pC:p.1∉ch:=fun z=>(hch p.1 z).2.2.2 p hp rfl
  exact ⟨keep p.1 p.2 ne nf pC e n,free p.1 p.2 pC e n,ne,nf,d⟩
theorem Inv.un {t':Nat} (I:Inv X pins σ H s) (u:Un X.fs [] H H' s.heap h') (hok:bL X.prog X.w H' h'):Inv X pins σ H' { s with heap:=h',toks:=t' }:=by
 obtain ⟨m,⟨o,es,ep,ho,r⟩,_⟩:=id I.loc;obtain ⟨sl,hL⟩:=u.any ho I.free (by simp);exact I.step (g':=s.gens) (d':=s.drawn) (ch:=[]) (fun _ z=>nomatch z) (fun b o _ hb _ e n=>u.keep b o e n hb (by simp)) (fun b o _ hb _ e n=>u.slot b o e n hb (by simp)) (fun b o _ e n=>u.free b o e n (by simp)) (fun b o _ e=>u.there b o e (by simp)) u.tups u.dj u.dW (fun m' hm=>by
  obtain ⟨o',es',ep',ho',r'⟩:=hm;rw [ho] at ho';cases ho'
  exact ⟨_,es',ep',hL,r'⟩) hok I.bare
theorem Inv.call {g':Array GenState} {t':Nat} {d':Drawn} {ch:List Addr} (I:Inv X pins σ H s) (u:Un (frs X.stack) ch H H' s.heap h') (hok:bL X.prog X.w H' h') (hg:AllBare g')
  (hch:∀ b∈ch,(b∈X.ex\/X.s₀.heap.objs.size<=b)/\b≠X.env.locals/\(∀ x c,X.env.cells.lookup x=some c->c≠b)/\∀ p∈X.pn++pins,p.1≠b) :
  Inv X pins σ H' { s with heap:=h',gens:=g',drawn:=d',toks:=t' }:=by
 obtain ⟨m,⟨o,es,ep,ho,r⟩,_⟩:=id I.loc;obtain ⟨sl,hL⟩:=u.any ho I.free fun z=>(hch _ z).2.1 rfl
 exact I.step (ch:=ch) hch (fun b o hL hb hc e n=>u.keep b o e n (fun z=>(List.mem_cons.mp (I.fj b z)).elim hL hb) hc) (fun b o _ _ hc e n=>u.any e n hc) (fun b o hc e n=>u.free b o e n hc) (fun b o hc e=>u.there b o e hc) u.tups u.dj u.dW (fun m' hm=>by
  obtain ⟨o',es',ep',ho',r'⟩:=hm;rw [ho] at ho';cases ho'
  exact ⟨_,es',ep',hL,r'⟩) hok hg
theorem Inv.turned {t':Nat} {it:Addr} (I:Inv X pins σ H s) (k:∀ b o,b≠it->s.heap.get? b=some o->h'.get? b=some o) (hn:H it=none) (hL:it≠X.env.locals)
  (h1:it∈X.ex\/X.s₀.heap.objs.size<=it) (h2:∀ x c,X.env.cells.lookup x=some c->c≠it) (h3:∀ p∈X.pn++pins,p.1≠it):Inv X pins σ H { s with heap:=h',toks:=t' }:=by
 have fB:∀ b u,H b=some u->b≠it:=fun b u e z=>by rw [z,hn] at e;cases e
 refine I.step (g':=s.gens) (d':=s.drawn) (ch:=[it]) (fun b hb=>?_) (fun b o _ _ hc e _=>k b o (fun z=>hc (by simp [z])) e) (fun b o _ _ hc e _=>⟨o.slots,k b o (fun z=>hc (by simp [z])) e⟩) (fun _ _ _ _ n=>n)
  (fun b o hc e=>⟨o,k b o (fun z=>hc (by simp [z])) e⟩) (fun _ _ e=>e) (fun _ _ _ e=>e) (fun b ps e=>⟨#[],by rw [e];simp⟩) (fun m hm=>?_) (fun b u e=>?_) I.bare
 ·have e:b=it:=by simpa using hb
  subst e;exact ⟨h1,hL,h2,h3⟩
 ·obtain ⟨o,es,ep,ho,r⟩:=hm
  exact ⟨o,es,ep,k _ o (Ne.symm hL) ho,r⟩
 ·refine (I.hok b u e).stay (fun c v hc q=>k c v ?_ q) (fun _ q=>q) fun _ _ q=>q
  rcases hc with z | z
  ·rw [z];exact fB b u e
  ·exact fB c _ z
theorem Inv.tok (I:Inv X pins σ H s) (t:Nat):Inv X pins σ H { s with toks:=t }:=I.un (h':=s.heap) (t':=t) Un.refl I.hok
theorem Inv.kept {t':Nat} (I:Inv X pins σ H s) (k:∀ b u,s.heap.get? b=some u->h'.get? b=some u):Inv X pins σ H { s with heap:=h',toks:=t' }:=I.un (Un.kept k) (I.hok.kept k)
theorem Inv.laid {a:Addr} {o:HO} {t':Nat} (I:Inv X pins σ H s) (k:∀ b u,s.heap.get? b=some u->h'.get? b=some u) (hp:s.heap.objs.size<=a) (new:Y1 X.prog X.w (upd H a o) h' a o) :
  Inv X pins σ (upd H a o) { s with heap:=h',toks:=t' }:=I.un (Un.laid k hp (I.hok.fresh hp)) (I.hok.laid k hp new)
theorem Inv.write {x e:Addr} {o:HO} {t':Nat} (I:Inv X pins σ H s) (mu:pB (H x)) (he:e=x\/H e=some (.own x)) (k:∀ b u,b≠e->s.heap.get? b=some u->h'.get? b=some u) (heo:∃ u,h'.get? e=some u)
  (new:Y1 X.prog X.w (upd H x o) h' x o):Inv X pins σ (upd H x o) { s with heap:=h',toks:=t' }:=I.un (Un.write mu he k heo) (I.hok.write mu he k heo new)
theorem Inv.mC {eH:List (Addr×Obj)} (I:Inv X pins σ H s) (h:∀ p∈eH,s.heap.get? p.1=some p.2/\H p.1=none/\p.1≠X.env.locals/\p.1∉X.fs/\∀ v,p.2.data ≠ .cell v):Inv X eH σ H s :=
 ⟨I.ok,I.os,I.bare,I.base,I.loc,I.cell,I.free,I.cP,fun p hp=>(List.mem_append.mp hp).elim (fun z=>I.pin p (List.mem_append_left _ z)) (h p),I.hok,I.len⟩
theorem Ew {N:List Str} (hN:N.Nodup) {i j:Nat} {x:Str} (a:N[i]?=some x) (b:N[j]?=some x):i=j:=by
 obtain ⟨h1,e1⟩:=List.getElem?_eq_some_iff.mp a;obtain ⟨h2,e2⟩:=List.getElem?_eq_some_iff.mp b;exact (List.getElem_inj hN).mp (e1.trans e2.symm)
theorem Pu {M:Model} {A:Around} {E:Value->Shared->Prop} {i:Nat} {x:Str} {v:V} {u:Value} {Q:Unit->Shared->Prop} (I:Inv X pins σ H s) (hN:X.N.Nodup) (hi:X.N[i]?=some x) (hx:Loc X.env.scope x) (r:YF v u)
  (h:∀ s',Inv X pins (σ.set i (some v)) H s'->(∃ a,Heap.SameBut a s.heap s'.heap/\(a=X.env.locals\/X.env.cells.lookup x=some a))->Q () s') (hf:X.fn x=true\/X.env.scope.names.lookup x=some .local:=by first | exact .inl rfl | exact .inr rfl | assumption):wpAny M A (storeName X.env x u) Q E s:=by
 obtain ⟨m,hn,hl⟩:=id I.loc;have hcls:(X.env.scope.kind == .class||(X.env.scope.kind == .module&&X.env.locals != X.env.globals))=false:=by rw [I.ok.kind];rfl
 have vP:i<σ.length:=by rw [I.len];exact (List.getElem?_eq_some_iff.mp hi).1
 have jk:=I.jk;have tracked:∀ {a:Addr} {h':Heap},(∃ o,s.heap.get? a=some o/\H a=none)->Heap.SameBut a s.heap h'->bL X.prog X.w H h':=fun {a h'} ha hs b ob e=>by
  obtain ⟨_,_,hfree⟩:=ha;refine (I.hok b ob e).stay (fun c w' hc q=>(hs.2 c ?_).trans q) (fun _ q=>q) fun _ _ q=>q
  rintro rfl;rcases hc with rfl | hc
  ·rw [hfree] at e;cases e
  ·rw [hfree] at hc;cases hc
 rcases hx with hk | hk
 ·refine wpAny_storeName_local hk hn (fun h' hn' hs=>?_) hcls
  obtain ⟨oL,_,_,hoL,_⟩:=id hn;refine h _ ⟨I.ok,I.os,I.bare,⟨fun b o e n hb hx=>?_,fun b o e n hb hx=>?_,I.base.free,fun b o e hx=>?_,I.base.tups,I.base.dj,I.base.dW⟩,⟨_,hn',fun j y v' e1 e2 e3=>?_⟩,fun y c e=>?_,I.free,I.cP,fun p hp=>?_,tracked ⟨oL,hoL,I.free⟩ hs,by simpa using I.len⟩ ⟨_,hs,.inl rfl⟩
  ·exact (hs.2 b (Nat.ne_of_lt (Nat.lt_of_lt_of_le (Heap.lt_size e) I.ok.above))).trans (I.base.keep b o e n hb hx)
  ·obtain ⟨sl,e1⟩:=I.base.slot b o e n hb hx
   exact ⟨sl,(hs.2 b (Nat.ne_of_lt (Nat.lt_of_lt_of_le (Heap.lt_size e) I.ok.above))).trans e1⟩
  ·obtain ⟨o',e1⟩:=I.base.there b o e hx
   exact ⟨o',(hs.2 b (Nat.ne_of_lt (Nat.lt_of_lt_of_le (Heap.lt_size e) I.ok.above))).trans e1⟩
  ·by_cases hj:j=i
   ·subst hj
    rw [hi] at e1;cases e1
    rw [List.getElem?_set_self vP] at e2
    cases e2
    exact ⟨u,r,.inl ⟨hk,by simp⟩⟩
   ·rw [List.getElem?_set_ne (Ne.symm hj)] at e2
    obtain ⟨u',r',q⟩:=hl j y v' e1 e2 e3;refine ⟨u',r',?_⟩;rcases q with ⟨k,e⟩ | ⟨k,c,e,z⟩
    ·refine .inl ⟨k,?_⟩
     have:y≠x:=fun e=>hj (Ew hN e1 (e▸hi))
     simp [this,e]
    ·exact .inr ⟨k,c,e,z.sameBut hs (jk y c e)⟩
  ·obtain ⟨w',z⟩:=I.cell y c e
   exact ⟨w',z.sameBut hs (jk y c e)⟩
  ·obtain ⟨e,n,ne,nf,d⟩:=I.pin p hp
   exact ⟨(hs.2 p.1 ne).trans e,n,ne,nf,d⟩
 ·have hfn:X.fn x=true:=by
   rcases hf with z | z
   ·exact z
   ·rw [z] at hk;cases hk
  obtain ⟨c,hc⟩:=I.ok.has x (.inl hk);obtain ⟨w',z⟩:=I.cell x c hc;refine wpAny_storeName_cell I.ok.kind hk hc z (fun h' hc' hs=>?_);obtain ⟨oc,hoc,Nx⟩:=id z;refine h { s with heap:=h' } ⟨I.ok,I.os,I.bare,⟨fun b o e n hb hx=>?_,fun b o e n hb hx=>?_,I.base.free,fun b o e hx=>?_,I.base.tups,I.base.dj,I.base.dW⟩,⟨m,hn.sameBut hs (Ne.symm (jk x c hc)),fun j y v' e1 e2 e3=>?_⟩,fun y c' e=>?_,I.free,I.cP,fun p hp=>?_,tracked ⟨oc,hoc,I.cP x c hc⟩ hs,by simpa using I.len⟩ ⟨c,hs,.inr hc⟩
  ·exact (hs.2 b (Nat.ne_of_lt (Nat.lt_of_lt_of_le (Heap.lt_size e) (I.ok.cab x c hfn hc)))).trans (I.base.keep b o e n hb hx)
  ·obtain ⟨sl,e1⟩:=I.base.slot b o e n hb hx
   exact ⟨sl,(hs.2 b (Nat.ne_of_lt (Nat.lt_of_lt_of_le (Heap.lt_size e) (I.ok.cab x c hfn hc)))).trans e1⟩
  ·obtain ⟨o',e1⟩:=I.base.there b o e hx
   exact ⟨o',(hs.2 b (Nat.ne_of_lt (Nat.lt_of_lt_of_le (Heap.lt_size e) (I.ok.cab x c hfn hc)))).trans e1⟩
  ·by_cases hj:j=i
   ·subst hj
    rw [hi] at e1;cases e1
    rw [List.getElem?_set_self vP] at e2
    cases e2
    exact ⟨u,r,.inr ⟨.inl hk,c,hc,hc'⟩⟩
   ·rw [List.getElem?_set_ne (Ne.symm hj)] at e2
    obtain ⟨u',r',q⟩:=hl j y v' e1 e2 e3;refine ⟨u',r',?_⟩;rcases q with q | ⟨k,c',e,z'⟩
    ·exact .inl q
    ·refine .inr ⟨k,c',e,z'.sameBut hs ?_⟩
     rintro rfl;exact hj (Ew hN e1 (I.ok.inj _ _ _ e hc▸hi))
  ·by_cases hcc:c'=c
   ·subst hcc;exact ⟨_,hc'⟩
   ·obtain ⟨w2,z2⟩:=I.cell y c' e
    exact ⟨w2,z2.sameBut hs hcc⟩
  ·obtain ⟨e,n,ne,nf,d⟩:=I.pin p hp
   refine ⟨(hs.2 p.1 ?_).trans e,n,ne,nf,d⟩;intro q;rw [q,hoc] at e
   have q':oc=p.2:=Option.some.inj e;exact d w' (by rw [<- q'];exact Nx)
theorem U9 {M:Model} {A:Around} {E:Value->Shared->Prop} {i:Nat} {x:Str} {v:V} {u:Value} {Q:Unit->Shared->Prop} (I:Inv X pins σ H s) (hN:X.N.Nodup) (hi:X.N[i]?=some x) (hx:Loc X.env.scope x) (r:YF v u)
  (h:∀ s',Inv X pins (σ.set i (some v)) H s'->Q () s') (hf:X.fn x=true\/X.env.scope.names.lookup x=some .local:=by first | exact .inl rfl | exact .inr rfl | assumption):wpAny M A (storeName X.env x u) Q E s :=
 Pu I hN hi hx r (fun s' I' _=>h s' I') hf
theorem Inv.call' {s':Shared} {ch:List Addr} (I:Inv X pins σ H s) (ho:s'.os=s.os) (u:Un (frs X.stack) ch H H' s.heap s'.heap) (hok:bL X.prog X.w H' s'.heap) (hg:AllBare s'.gens)
  (hch:∀ b∈ch,(b∈X.ex\/X.s₀.heap.objs.size<=b)/\b≠X.env.locals/\(∀ x c,X.env.cells.lookup x=some c->c≠b)/\∀ p∈X.pn++pins,p.1≠b):Inv X pins σ H' s':=by
 obtain ⟨h',g',d',t',o'⟩:=s';have e:o'=s.os:=ho;subst e;exact I.call (g':=g') (t':=t') (d':=d') u hok hg hch
end
abbrev XK:=Value->Option Addr->Hp->Prop
abbrev St:=List (Option V)
abbrev VK:=V->Hp->Prop
abbrev TE:=St->Hp->VK->Prop
abbrev TT:=St->Hp->(Bool->Hp->Prop)->Prop
abbrev TA:=St->Hp->(List V->Hp->Prop)->Prop
structure Ends where
 nx:St->Hp->Prop
 rt:VK
 bk:St->Hp->Prop:=fun _ _=>False
 ct:St->Hp->Prop:=fun _ _=>False
abbrev TS:=Ends->St->Hp->Prop
def EP (X:Cx) (pins:List (Addr×Obj)) (σ:St) (Q:VK) (u:Value) (s':Shared):Prop:=∃ v H',Inv X pins σ H' s'/\YF v u/\Q v H'
def TP (X:Cx) (pins:List (Addr×Obj)) (σ:St) (Q:Bool->Hp->Prop) (b:Bool) (s':Shared):Prop:=∃ H',Inv X pins σ H' s'/\Q b H'
def AP (X:Cx) (pins:List (Addr×Obj)) (σ:St) (Q:List V->Hp->Prop) (us:List Value) (s':Shared):Prop:=∃ vs H',Inv X pins σ H' s'/\Yx vs us/\Q vs H'
def SP (X:Cx) (pins:List (Addr×Obj)) (D:Ends) (f:Flow) (s':Shared):Prop :=
 match f with
 | .next=>∃ σ' H',Inv X pins σ' H' s'/\D.nx σ' H'
 | .brk=>∃ σ' H',Inv X pins σ' H' s'/\D.bk σ' H'
 | .cont=>∃ σ' H',Inv X pins σ' H' s'/\D.ct σ' H'
 | .ret u=>∃ v σ' H',Inv X pins σ' H' s'/\YF v u/\D.rt v H'
def PE (X:Cx) (e:Expr) (t:TE):Prop :=
 ∀ (pins:List (Addr×Obj)) (s:Shared) (σ:St) (H:Hp) (Q:VK),Inv X pins σ H s->t σ H Q->wpAny (model X.prog X.w) X.A (eval e X.env) (EP X pins σ Q) X.xe s
def PT (X:Cx) (e:Expr) (t:TT):Prop :=
 ∀ (pins:List (Addr×Obj)) (s:Shared) (σ:St) (H:Hp) (Q:Bool->Hp->Prop),Inv X pins σ H s->t σ H Q->wpAny (model X.prog X.w) X.A (isTrue e X.env (eval e X.env)) (TP X pins σ Q) X.xe s
def PW (X:Cx) (e:Expr) (t:TT):Prop :=
 ∀ (whole:Sem Value) (pins:List (Addr×Obj)) (s:Shared) (σ:St) (H:Hp) (Q:Bool->Hp->Prop),Inv X pins σ H s->t σ H Q->wpAny (model X.prog X.w) X.A (isTrue e X.env whole) (TP X pins σ Q) X.xe s
theorem PW.pt {X:Cx} {e:Expr} {t:TT} (h:PW X e t):PT X e t:=h _
def PA (X:Cx) (es:List Expr) (t:TA):Prop :=
 ∀ (pos:Pos) (pins:List (Addr×Obj)) (s:Shared) (σ:St) (H:Hp) (Q:List V->Hp->Prop),Inv X pins σ H s->t σ H Q->wpAny (model X.prog X.w) X.A (spliced (backTo pos (starEach es X.env))) (AP X pins σ Q) X.xe s
def PS (X:Cx) (st:Stmt) (t:TS):Prop :=
 ∀ (pins:List (Addr×Obj)) (s:Shared) (σ:St) (H:Hp) (D:Ends),Inv X pins σ H s->t D σ H->wpAny (model X.prog X.w) X.A (exec st X.env) (SP X pins D) X.xe s
def dM (X:Cx) (st:List Stmt) (t:TS):Prop :=
 ∀ (pins:List (Addr×Obj)) (s:Shared) (σ:St) (H:Hp) (D:Ends),Inv X pins σ H s->t D σ H->wpAny (model X.prog X.w) X.A (execs st X.env) (SP X pins D) X.xe s
theorem aG {α:Type} {t:Sem α} {Q Q':α->Shared->Prop} {M:Model} {A:Around} {E:Value->Shared->Prop} {s:Shared} (h:wpAny M A t Q E s) (hQ:∀ a s,Q a s->Q' a s):wpAny M A t Q' E s:=wpAny_mono h hQ fun _ _ x=>x
section
variable {X:Cx}
theorem bin {a b:Expr} {ta tb:TE} (ha:PE X a ta) (hb:PE X b tb) {pins:List (Addr×Obj)} {s:Shared} {σ:St} {H:Hp} {R:V->V->Hp->Prop} (I:Inv X pins σ H s) (h:ta σ H fun x H1=>tb σ H1 fun y H2=>R x y H2)
  {α:Type} {Q:α->Shared->Prop} {f:Value->Value->Sem α}
  (hf:∀ v u s2 x y H2,Inv X pins σ H2 s2->YF x v->YF y u->R x y H2->wpAny (model X.prog X.w) X.A (f v u) Q X.xe s2) :
  wpAny (model X.prog X.w) X.A (eval a X.env) (fun v s₁=>wpAny (model X.prog X.w) X.A (eval b X.env) (fun u s₂=>wpAny (model X.prog X.w) X.A (f v u) Q X.xe s₂) X.xe s₁) X.xe s:=by
 refine aG (ha pins s σ H _ I h) fun v s1 ⟨x,H1,I1,r1,q1⟩=>?_
 refine aG (hb pins s1 σ H1 _ I1 q1) fun u s2 ⟨y,H2,I2,r2,q2⟩=>?_
 exact hf v u s2 x y H2 I2 r1 r2 q2
def kI (x:V) (k:Int->Prop):Prop:=match x with | .int i=>k i | _=>False
def kB (x:V) (k:Bool->Prop):Prop:=match x with | .bl i=>k i | _=>False
def kR (x:V) (k:Addr->Prop):Prop:=match x with | .ref i=>k i | _=>False
def k1 (l:List V) (k:V->Prop):Prop:=match l with | [x]=>k x | _=>False
def k2 (l:List V) (k:V->V->Prop):Prop:=match l with | [x,y]=>k x y | _=>False
theorem Ey (i:Int) (k:Int->Prop):kI (.int i) k=k i:=rfl
theorem Ez (i:Bool) (k:Bool->Prop):kB (.bl i) k=k i:=rfl
theorem EY (i:Addr) (k:Addr->Prop):kR (.ref i) k=k i:=rfl
theorem Fb (x:V) (k:V->Prop):k1 [x] k=k x:=rfl
theorem Fd (x y:V) (k:V->V->Prop):k2 [x,y] k=k x y:=rfl
theorem QK {x:V} {k:Int->Prop}:kI x k↔∃ i,x = .int i/\k i:=⟨fun h=>by cases x<;>first | exact ⟨_,rfl,h⟩ | exact h.elim,fun ⟨_,e,h⟩=>e▸h⟩
theorem Ul {x:V} {k:Bool->Prop}:kB x k↔∃ i,x = .bl i/\k i:=⟨fun h=>by cases x<;>first | exact ⟨_,rfl,h⟩ | exact h.elim,fun ⟨_,e,h⟩=>e▸h⟩
theorem W9 {x:V} {k:Addr->Prop}:kR x k↔∃ i,x = .ref i/\k i:=⟨fun h=>by cases x<;>first | exact ⟨_,rfl,h⟩ | exact h.elim,fun ⟨_,e,h⟩=>e▸h⟩
theorem vQ {l:List V} {k:V->Prop} (h:k1 l k):∃ x,l=[x]/\k x:=by
 unfold k1 at h
 split at h
 ·exact ⟨_,rfl,h⟩
 ·exact h.elim
theorem rH {l:List V} {k:V->V->Prop} (h:k2 l k):∃ x y,l=[x,y]/\k x y:=by
 unfold k2 at h
 split at h
 ·exact ⟨_,_,rfl,h⟩
 ·exact h.elim
def fO:Nat->St->(V->Prop)->Prop
 | 0,σ,k=>match σ with | some v::_=>k v | _=>False
 | n+1,σ,k=>match σ with | _::l=>fO n l k | []=>False
theorem Fe (v:V) (l:St) (k:V->Prop):fO 0 (some v::l) k=k v:=rfl
theorem Fg (n:Nat) (a:Option V) (l:St) (k:V->Prop):fO (n+1) (a::l) k=fO n l k:=rfl
theorem vR:∀ {n:Nat} {σ:St} {k:V->Prop},fO n σ k->∃ v,σ[n]?=some (some v)/\k v
 | 0,σ,k,h=>by
  unfold fO at h
  split at h
  ·exact ⟨_,rfl,h⟩
  ·exact h.elim
 | n+1,σ,k,h=>by
  unfold fO at h
  split at h
  ·exact vR (n:=n) h
  ·exact h.elim
theorem tL:∀ {n:Nat} {σ:St} {k:V->Prop} {v:V},σ[n]?=some (some v)->k v->fO n σ k
 | _,[],_,_,e,_=>by simp at e
 | 0,a::σ,k,v,e,h=>by
  have:a=some v:=by simpa using e
  subst this;exact h
 | n+1,a::σ,k,v,e,h=>tL (n:=n) (σ:=σ) (by simpa using e) h
def XN (i:Nat):TE:=fun σ H Q=>fO i σ fun v=>Q v H
def tC (v:V):TE:=fun _ H Q=>Q v H
theorem Px {i:Nat} {x:Str} {pos:Pos} (hN:X.N[i]?=some x) (hv:tH X.env.scope x) (hd:(x==("__debug__":Str))=false:=by decide) (hcd:(x==("__classdict__":Str))=false:=by decide):PE X (.Name x pos) (XN i):=by
 intro pins s σ H Q I h;obtain ⟨v,e,h⟩:=vR h;obtain ⟨m,hn,hl⟩:=I.loc;obtain ⟨u,r,l⟩:=hl i x v hN e hv;have fin:EP X pins σ Q u s:=⟨v,H,I,r,h⟩;rcases l with ⟨hk,hm⟩ | ⟨hk,c,hc,hcell⟩
 ·exact wpAny_Name (wpAny_loadName_local I.ok.kind hk hn hm fin) hd
 ·rcases hk with hk | hk
  ·exact wpAny_Name (wpAny_loadName_cell I.ok.kind hk hc hcell fin) hd
  ·exact wpAny_Name (wpAny_loadName_free I.ok.kind hk hc hcell fin hcd) hd
theorem Yh {i j pos}:PE X (.Constant (.int i) j pos) (tC (.int i)):=fun _ _ _ H _ I h=>wpAny_Constant_int ⟨.int i,H,I.tok _,⟨_,rfl⟩,h⟩
theorem Wk {b j pos}:PE X (.Constant (.bool b) j pos) (tC (.bl b)):=fun _ _ _ H _ I h=>Constant_bool ⟨.bl b,H,I,rfl,h⟩
theorem X5 {j pos}:PE X (.Constant .none j pos) (tC .non):=fun _ _ _ H _ I h=>Constant_none ⟨.non,H,I,rfl,h⟩
theorem Yk {x j pos}:PE X (.Constant (.str x) j pos) (tC (.str x)):=fun _ _ _ H _ I h=>Calls.Constant_str ⟨.str x,H,I.tok _,⟨_,rfl⟩,h⟩
def Gl (X:Cx) (x:Str):Prop:=X.env.kindOf x=some .globalImplicit
theorem VH {E:Value->Shared->Prop} {pins:List (Addr×Obj)} {s:Shared} {σ:St} {H:Hp} {x:Str} {u:Value} {pos:Pos} {Q:Value->Shared->Prop} (I:Inv X pins σ H s) (hg:Gl X x) (hm:X.mg x=some u) (h:Q u s)
  (hd:(x==("__debug__":Str))=false:=by decide):wpAny (model X.prog X.w) X.A (eval (.Name x pos) X.env) Q E s :=
 Calls.Name_function_global I.ok.kind hg (Calls.loadGlobal_global (by rw [I.ok.glob];exact I.mod.glob.keeps I.bk) hm h) hd
theorem Wl {E:Value->Shared->Prop} {pins:List (Addr×Obj)} {s:Shared} {σ:St} {H:Hp} {x:Str} {u:Value} {pos:Pos} {Q:Value->Shared->Prop} (I:Inv X pins σ H s) (hg:Gl X x) (hm:X.mg x=none) (hv:bootBuiltins x=some u) (h:Q u s)
  (hn:x≠"__name__":=by decide) (hd:(x==("__debug__":Str))=false:=by decide):wpAny (model X.prog X.w) X.A (eval (.Name x pos) X.env) Q E s:=by
 obtain ⟨mb,h1,h2⟩:=I.mod.blt;exact Calls.Name_function_global I.ok.kind hg (Calls.loadGlobal_builtin (by rw [I.ok.glob];exact I.mod.glob.keeps I.bk) hm (by rw [I.ok.blt];exact h1.keeps I.bk) ((h2 x hn).trans hv) h) hd
theorem QL {x:Str} {v:V} {u:Value} {pos:Pos} (hg:Gl X x) (hm:X.mg x=some u) (r:YF v u) (hd:(x==("__debug__":Str))=false:=by decide):PE X (.Name x pos) (tC v) :=
 fun _ _ _ H _ I h=>VH I hg hm ⟨v,H,I,r,h⟩ hd
theorem Py {x:Str} {v:V} {u:Value} {pos:Pos} (hg:Gl X x) (hm:X.mg x=none) (hv:bootBuiltins x=some u) (r:YF v u) (hn:x≠"__name__":=by decide) (hd:(x==("__debug__":Str))=false:=by decide):PE X (.Name x pos) (tC v) :=
 fun _ _ _ H _ I h=>Wl I hg hm hv ⟨v,H,I,r,h⟩ hn hd
variable {a b:Expr} {ta tb:TE} {pos:Pos}
def tB (t:TE):TT:=fun σ H Q=>t σ H fun x H1=>kB x fun c=>Q c H1
theorem Vb {e:Expr} {t:TE} (h:PE X e t) (he:∀ whole,isTrue e X.env whole=(do let v <- whole;standAt e.pos;holding [v] (truthy v))):PT X e (tB t):=by
 intro pins s σ H Q I hw;refine isTrue_plain (aG (h pins s σ H _ I hw) fun v s1 ⟨x,H1,I1,r1,q1⟩=>?_) (he _);obtain ⟨d,rfl,q⟩:=Ul.mp q1
 cases r1
 exact wpAny_truthy_bool ⟨H1,I1,q⟩
variable {tA tM:TT} {Y0:List Expr}
def rJ (t u:TT):TT:=fun σ H Q=>t σ H fun c H1=>if c=true then u σ H1 Q else Q false H1
def vU (t u:TT):TT:=fun σ H Q=>t σ H fun c H1=>if c=true then Q true H1 else u σ H1 Q
def rK (t:TT):TT:=fun σ H Q=>t σ H fun c H1=>Q (!c) H1
theorem XD (ha:PT X a tA):PW X (.BoolOp .And [a] pos) tA:=by
 intro wh pins s σ H Q I h;refine isTrue_and (aG (ha pins s σ H Q I h) fun c s1 e=>?_)
 cases c with
 | true=>exact isTrue_and_nil e
 | false=>exact e
theorem Vc (ha:PT X a tA):PW X (.BoolOp .Or [a] pos) tA:=by
 intro wh pins s σ H Q I h;refine isTrue_or (aG (ha pins s σ H Q I h) fun c s1 e=>?_)
 cases c with
 | false=>exact isTrue_or_nil e
 | true=>exact e
theorem XE (ha:PT X a tA) (hb:PW X (.BoolOp .And (b::Y0) pos) tM):PW X (.BoolOp .And (a::b::Y0) pos) (rJ tA tM):=by
 intro wh pins s σ H Q I h;refine isTrue_and (aG (ha pins s σ H _ I h) fun c s1 ⟨H1,I1,q1⟩=>?_)
 cases c with
 | true=>exact hb wh pins s1 σ H1 Q I1 q1
 | false=>exact ⟨H1,I1,q1⟩
theorem Vq (ha:PT X a tA) (hb:PW X (.BoolOp .Or (b::Y0) pos) tM):PW X (.BoolOp .Or (a::b::Y0) pos) (vU tA tM):=by
 intro wh pins s σ H Q I h;refine isTrue_or (aG (ha pins s σ H _ I h) fun c s1 ⟨H1,I1,q1⟩=>?_)
 cases c with
 | true=>exact ⟨H1,I1,q1⟩
 | false=>exact hb wh pins s1 σ H1 Q I1 q1
theorem WL (ha:PT X a tA):PT X (.UnaryOp .Not a pos) (rK tA):=by
 intro pins s σ H Q I h;exact isTrue_not (ha pins s σ H (fun c H1=>Q (!c) H1) I h)
def vV (ta tb:TE):TE:=fun σ H Q=>ta σ H fun x H1=>kB x fun c=>if c=true then tb σ H1 Q else Q (.bl false) H1
def vW (ta tb:TE):TE:=fun σ H Q=>ta σ H fun x H1=>kB x fun c=>if c=true then Q (.bl true) H1 else tb σ H1 Q
def vX (ta:TE):TE:=fun σ H Q=>ta σ H fun x H1=>kB x fun c=>Q (.bl (!c)) H1
theorem Vd {op} {t:TE} (h:PE X a t):PE X (.BoolOp op [a] pos) t:=fun pins s σ H Q I hw=>BoolOp_one (h pins s σ H Q I hw)
theorem WM (ha:PE X a ta) (hb:PE X (.BoolOp .And (b::Y0) pos) tb):PE X (.BoolOp .And (a::b::Y0) pos) (vV ta tb):=by
 intro pins s σ H Q I h;refine BoolOp_and (aG (ha pins s σ H _ I h) fun v s1 ⟨x,H1,I1,r1,q1⟩=>?_)
 replace q1:=Ul.mp q1
 obtain ⟨c,rfl,q1⟩:=q1
 cases r1
 refine wpAny_truthy_bool ?_
 cases c with
 | true=>exact hb pins s1 σ H1 Q I1 q1
 | false=>exact ⟨.bl false,H1,I1,rfl,q1⟩
theorem Fi (ha:PE X a ta):PE X (.UnaryOp .Not a pos) (vX ta):=by
 intro pins s σ H Q I h;refine UnaryOp_ (aG (ha pins s σ H _ I h) fun v s1 ⟨x,H1,I1,r1,q1⟩=>?_)
 replace q1:=Ul.mp q1
 obtain ⟨c,rfl,q1⟩:=q1
 cases r1
 exact not_of (wpAny_truthy_bool ⟨.bl (!c),H1,I1,rfl,q1⟩)
def vY (t:TT) (ta tb:TE):TE:=fun σ H Q=>t σ H fun c H1=>if c=true then ta σ H1 Q else tb σ H1 Q
theorem Fj {c:Expr} (hc:PT X c tA) (ha:PE X a ta) (hb:PE X b tb):PE X (.IfExp c a b pos) (vY tA ta tb):=by
 intro pins s σ H Q I h;refine wpAny_IfExp (aG (hc pins s σ H _ I h) fun d s1 ⟨H1,I1,q1⟩=>?_)
 cases d with
 | true=>exact ha pins s1 σ H1 Q I1 q1
 | false=>exact hb pins s1 σ H1 Q I1 q1
end
def ao (K:W.Frag) (H:Hp) (a:Addr) (xs:List V):Prop :=
 Rd H a (.lst xs) \/
  ∃ (o:Obj) (its:Array Value) (n:Nat),K.lookup a=some o/\o.cls = .type "list"/\o.dict=none/\o.data = .seq its n/\its.size<=sizeLine/\Yx xs its.toList
def au (K:W.Frag) (H:Hp) (a:Addr) (xs:List V):Prop :=
 Rd H a (.tup xs) \/
  ∃ (o:Obj) (its:Array Value) (n:Nat),K.lookup a=some o/\o.cls = .type "tuple"/\o.data = .seq its n/\its.size<=sizeLine/\Yx xs its.toList
def Ny:Value->Option V
 | .none=>some .non
 | .bool b=>some (.bl b)
 | .int i _=>some (.int i)
 | .str x _=>some (.str x)
 | .bytes b _=>some (.eU b)
 | .float b _=>some (.flt b)
 | .ref a=>some (.ref a)
 | .type n=>some (.ty n)
 | _=>none
theorem YF.abs {x:V} {u:Value} (r:YF x u):Ny u=some x:=by
 cases x with
 | non=>cases r;rfl
 | bl _=>cases r;rfl
 | int _=>obtain ⟨t,rfl⟩:=r;rfl
 | str _=>obtain ⟨t,rfl⟩:=r;rfl
 | eU _=>obtain ⟨t,rfl⟩:=r;rfl
 | flt _=>obtain ⟨t,rfl⟩:=r;rfl
 | ref _=>cases r;rfl
 | ty _=>cases r;rfl
theorem YF.inj {x y:V} {u:Value} (r:YF x u) (q:YF y u):x=y:=Option.some.inj (r.abs.symm.trans q.abs)
theorem Yx.inj:∀ {xs ys:List V} {us:List Value},Yx xs us->Yx ys us->xs=ys
 | _,_,_,.nil,.nil=>rfl
 | _,_,_,.cons r t,.cons r' t'=>by rw [r.inj r',Yx.inj t t']
section
variable {X:Cx} {pins:List (Addr×Obj)} {σ:St} {H:Hp} {s:Shared} {a:Addr} {xs ys:List V}
theorem ao.of {K:W.Frag} (h:H a=some (.lst xs)):ao K H a xs := .inl (.inl h)
theorem au.of {K:W.Frag} (h:H a=some (.tup xs)):au K H a xs := .inl (.inl h)
theorem Inv.list (I:Inv X pins σ H s) (h:ao X.K H a xs):∃ its:List Value,Yx xs its/\PlainL s.heap a its.toArray/\xs.length<=sizeLine:=by
 rcases h with h | ⟨o,its,n,hk,hc,hd,hs,hz,r⟩
 ·obtain ⟨z,its,n,r,e⟩:=h.ok I.hok
  exact ⟨its,r,⟨_,n,e,rfl,rfl,rfl⟩,z⟩
 ·refine ⟨its.toList,r,⟨o,n,I.bA a o hk,hc,hd,by simpa using hs⟩,?_⟩
  have e:=r.length;simp only [Array.length_toList] at e;omega
theorem Inv.tuple (I:Inv X pins σ H s) (h:au X.K H a xs):∃ its:List Value,Yx xs its/\IsTup s.heap a its.toArray/\xs.length<=sizeLine:=by
 rcases h with h | ⟨o,its,n,hk,hc,hs,hz,r⟩
 ·obtain ⟨z,its,r,p⟩:=h.ok I.hok
  exact ⟨its,r,p,z⟩
 ·refine ⟨its.toList,r,⟨o,I.bA a o hk,hc,n,by simpa using hs⟩,?_⟩
  have e:=r.length;simp only [Array.length_toList] at e;omega
theorem Inv.jl (I:Inv X pins σ H s) (h:ao X.K H a xs) (h':ao X.K H a ys):xs=ys:=by
 obtain ⟨its,r,⟨o,n,e,_,_,d⟩,_⟩:=I.list h;obtain ⟨its',r',⟨o',n',e',_,_,d'⟩,_⟩:=I.list h';rw [e] at e';cases e'
 rw [d] at d'
 injection d' with d1 _
 have:its=its':=by simpa using congrArg Array.toList d1
 subst this;exact r.inj r'
theorem Inv.iC (I:Inv X pins σ H s) (h:au X.K H a xs) (h':au X.K H a ys):xs=ys:=by
 obtain ⟨its,r,⟨o,e,_,n,d⟩,_⟩:=I.tuple h;obtain ⟨its',r',⟨o',e',_,n',d'⟩,_⟩:=I.tuple h';rw [e] at e';cases e'
 rw [d] at d'
 injection d' with d1 _
 have:its=its':=by simpa using congrArg Array.toList d1
 subst this;exact r.inj r'
end
abbrev Cx.wish (X:Cx) (E:Value->Shared->Prop):Cx:={ X with xe:=E }
abbrev Cx.jm (X:Cx):Cx:=X.wish fun _ _=>False
theorem Cx.Ok.wish {X:Cx} (ok:X.Ok) (E:Value->Shared->Prop):(X.wish E).Ok :=
 ⟨ok.mod,ok.kind,ok.glob,ok.blt,ok.above,ok.inj,ok.has,ok.cab,ok.hd,ok.frames,ok.stk,ok.Et,ok.bs,ok.gO,ok.jh,ok.nF,ok.cU,ok.ji⟩
theorem Cx.Ok.cC {X:Cx} {E:Value->Shared->Prop} (ok:(X.wish E).Ok):X.Ok :=
 ⟨ok.mod,ok.kind,ok.glob,ok.blt,ok.above,ok.inj,ok.has,ok.cab,ok.hd,ok.frames,ok.stk,ok.Et,ok.bs,ok.gO,ok.jh,ok.nF,ok.cU,ok.ji⟩
section
variable {X:Cx} {pins:List (Addr×Obj)} {σ:St} {H:Hp} {s:Shared} {E:Value->Shared->Prop}
theorem Inv.wish (I:Inv X pins σ H s) (E:Value->Shared->Prop):Inv (X.wish E) pins σ H s:=⟨I.ok.wish E,I.os,I.bare,I.base,I.loc,I.cell,I.free,I.cP,I.pin,I.hok,I.len⟩
theorem Inv.cC (I:Inv (X.wish E) pins σ H s):Inv X pins σ H s:=⟨I.ok.cC,I.os,I.bare,I.base,I.loc,I.cell,I.free,I.cP,I.pin,I.hok,I.len⟩
theorem SP.cC {D:Ends} {f:Flow} {s':Shared} (h:SP (X.wish E) pins D f s'):SP X pins D f s':=by
 cases f with
 | next=>obtain ⟨σ',H',I,q⟩:=h;exact ⟨σ',H',I.cC,q⟩
 | brk=>obtain ⟨σ',H',I,q⟩:=h;exact ⟨σ',H',I.cC,q⟩
 | cont=>obtain ⟨σ',H',I,q⟩:=h;exact ⟨σ',H',I.cC,q⟩
 | ret u=>obtain ⟨v,σ',H',I,r,q⟩:=h;exact ⟨v,σ',H',I.cC,r,q⟩
theorem dM.jm {st:List Stmt} {t:TS} (h:dM X.jm st t):dM X st t:=fun pins s σ H D I hw =>
 wpAny_mono (h pins s σ H D (I.wish _) hw) (fun _ _ q=>q.cC) fun _ _ z=>False.elim z
end
section
variable {X:Cx} {st:Stmt} {Y0:List Stmt} {t u:TS} {e:Expr} {te:TE} {pos:Pos}
def Qj:TS:=fun D σ H=>D.nx σ H
def Qa (t u:TS):TS:=fun D σ H=>t { D with nx:=u D } σ H
theorem Yq:dM X [] Qj:=fun _ _ σ H _ I h=>wpAny_execs_nil ⟨σ,H,I,h⟩
theorem Ye (h1:PS X st t) (h2:dM X Y0 u):dM X (st::Y0) (Qa t u):=by
 intro pins s σ H D I h;refine wpAny_execs_cons (aG (h1 pins s σ H { D with nx:=u D } I h) fun f s1 q=>?_)
 cases f with
 | next =>
  obtain ⟨σ',H',I',q⟩:=q;exact h2 pins s1 σ' H' D I' q
 | ret v=>exact q
 | brk=>exact q
 | cont=>exact q
theorem Yf (h1:PS X st t):dM X [st] t:=by
 intro pins s σ H D I h;refine wpAny_execs_cons (aG (h1 pins s σ H D I h) fun f s1 q=>?_)
 cases f with
 | next=>exact wpAny_execs_nil q
 | ret v=>exact q
 | brk=>exact q
 | cont=>exact q
def Fl:TS:=fun D σ H=>D.bk σ H
def Fo:TS:=fun D σ H=>D.ct σ H
theorem Inv.quiet {pins:List (Addr×Obj)} {σ:St} {H:Hp} {s:Shared} (I:Inv X pins σ H s):interactive X.env=false:=by simp [interactive,I.ok.kind]
def vZ (te:TE):TS:=fun D σ H=>te σ H fun _ H1=>D.nx σ H1
theorem Xb (he:PE X e te) (hs:swapsWith e none pos.line X.env=pure false):PS X (.Expr e pos) (vZ te):=by
 intro pins s σ H D I h;exact wpAny_Expr_any (aG (he pins s σ H _ I h) fun v s1 ⟨x,H1,I1,r1,q1⟩=>⟨σ,H1,I1,q1⟩) I.quiet hs
def rM (te:TE):TS:=fun D σ H=>te σ H D.rt
theorem Ym (he:PE X e te):PS X (.Return (some e) pos) (rM te):=by
 intro pins s σ H D I h;exact wpAny_Return_some (aG (he pins s σ H _ I h) fun v s1 ⟨x,H1,I1,r1,q1⟩=>⟨x,σ,H1,I1,r1,q1⟩)
def Fp:TS:=fun D _ H=>D.rt .non H
def pD (c:TT) (t u:TS):TS:=fun D σ H=>c σ H fun b H1=>if b=true then t D σ H1 else u D σ H1
theorem Yy {c:Expr} {a b:List Stmt} {tc:TT} (hc:PT X c tc) (ha:dM X a t) (hb:dM X b u):PS X (.If c a b pos) (pD tc t u):=by
 intro pins s σ H D I h;refine wpAny_If (aG (hc pins s σ H _ I h) fun d s1 ⟨H1,I1,q1⟩=>?_)
 cases d with
 | true=>exact ha pins s1 σ H1 D I1 q1
 | false=>exact hb pins s1 σ H1 D I1 q1
def v7:TS:=fun _ _ _=>False
theorem Y4:PS X st v7:=fun _ _ _ _ _ _ h=>h.elim
end
abbrev TG:=V->St->Hp->(St->Hp->Prop)->Prop
abbrev jo:=List V->St->Hp->(St->Hp->Prop)->Prop
def PG (X:Cx) (target:Expr) (t:TG):Prop :=
 ∀ (pins:List (Addr×Obj)) (s:Shared) (σ:St) (H:Hp) (v:V) (u:Value) (Q:St->Hp->Prop),Inv X pins σ H s->YF v u->t v σ H Q ->
  wpAny (model X.prog X.w) X.A (assign target X.env u) (fun _ s'=>∃ σ' H',Inv X pins σ' H' s'/\Q σ' H') X.xe s
def tO (X:Cx) (ts:List Expr) (t:jo):Prop :=
 ∀ (pins:List (Addr×Obj)) (s:Shared) (σ:St) (H:Hp) (vs:List V) (us:List Value) (Q:St->Hp->Prop),Inv X pins σ H s->Yx vs us->t vs σ H Q ->
  wpAny (model X.prog X.w) X.A (assignInOrder ((assignEach ts X.env).map (·.2)) us) (fun _ s'=>∃ σ' H',Inv X pins σ' H' s'/\Q σ' H') X.xe s
abbrev Nz:=V->V->V->Hp->(Hp->Prop)->Prop
abbrev tQ:=V->V->Hp->VK->Prop
def v8 (X:Cx) (op:Operator) (t:tQ):Prop :=
 ∀ (pins:List (Addr×Obj)) (s:Shared) (σ:St) (H:Hp) (x y:V) (v u:Value) (Q:VK),Inv X pins σ H s->YF x v->YF y u->t x y H Q ->
  wpAny (model X.prog X.w) X.A (inplaceOp op v u) (EP X pins σ Q) X.xe s
section
variable {X:Cx} {pos:Pos}
def YG (i:Nat):TG:=fun v σ H Q=>Q (σ.set i (some v)) H
theorem YK {i:Nat} {x:Str} (hN:X.N.Nodup) (hi:X.N[i]?=some x) (hx:Loc X.env.scope x) (hf:X.fn x=true\/X.env.scope.names.lookup x=some .local:=by first | exact .inl rfl | exact .inr rfl | assumption):PG X (.Name x pos) (YG i):=by
 intro pins s σ H v u Q I r h;exact wpAny_assign_Name (U9 I hN hi hx r (fun s' I'=>⟨_,H,I',h⟩) hf)
def V6:jo:=fun vs σ H Q=>vs=[]/\Q σ H
def Xz (t:TG) (u:jo):jo:=fun vs σ H Q=>∃ v r,vs=v::r/\t v σ H fun σ' H'=>u r σ' H' Q
theorem W6:tO X [] V6:=by
 intro pins s σ H vs us Q I r h;obtain ⟨e,h⟩:=h;subst e
 cases r
 exact assignInOrder_nil ⟨σ,H,I,h⟩
theorem Xk {e:Expr} {es:List Expr} {t:TG} {u:jo} (h1:PG X e t) (h2:tO X es u)
  (hs:(assignEach (e::es) X.env).map (·.2)=assign e X.env::(assignEach es X.env).map (·.2)):tO X (e::es) (Xz t u):=by
 intro pins s σ H vs us Q I r h;obtain ⟨v,vr,e1,h⟩:=h;subst e1
 cases r with
 | cons r rr =>
  rw [hs];refine assignInOrder_cons (aG (h1 pins s σ H _ _ _ I r h) fun _ s1 ⟨σ1,H1,I1,q1⟩=>?_);exact h2 pins s1 σ1 H1 _ _ Q I1 rr q1
def VF (K:W.Frag) (n:Nat) (t:jo):TG:=fun v σ H Q=>∃ a xs,v = .ref a/\au K H a xs/\xs.length=n/\t xs σ H Q
theorem VI {es:List Expr} {k:Nat} {t:jo} {n:Nat} (hc:X.calm=true) (h:tO X es t)
  (hn:(assignEach es X.env).length=n) (hst:(assignEach es X.env).findIdx? (·.1)=none):PG X (.Tuple es k pos) (VF X.K n t):=by
 intro pins s σ H v u Q I r hw;obtain ⟨a,xs,e1,hq,hl,hw⟩:=hw;subst e1
 cases r
 obtain ⟨its,rv,ht,hz⟩:=I.tuple hq;refine assign_Tuple_tuple (I.ok.hd hc) ht (by simp [hn,<- hl,rv.length]) hst fun h' hx=>?_
 have I1:Inv X pins σ H { s with heap:=h' }:=I.kept (t':=s.toks) fun b o e=>hx b o (Nat.ne_of_lt (Heap.lt_size e)) e
 exact h pins _ σ H xs _ Q I1 (by simpa using rv) hw
def v9 (to ti:TE) (t:Nz):TG:=fun v σ H Q=>to σ H fun o H1=>ti σ H1 fun i H2=>t o i v H2 fun H3=>Q σ H3
def tR (te:TE) (g:TG):TS:=fun D σ H=>te σ H fun x H1=>g x σ H1 D.nx
theorem Yz {i:Nat} {x:Str} {e:Expr} {te:TE} {pos':Pos} (hN:X.N.Nodup) (hi:X.N[i]?=some x) (hx:Loc X.env.scope x) (he:PE X e te) (hs:swapsWith e (some (.Name x pos')) pos.line X.env=pure false) (hf:X.fn x=true\/X.env.scope.names.lookup x=some .local) :
  PS X (.Assign [.Name x pos'] e pos) (tR te (YG i)):=by
 intro pins s σ H D I h;refine wpAny_Assign_Name (aG (he pins s σ H _ I h) fun v s1 ⟨y,H1,I1,r1,q1⟩=>?_) hs;exact U9 I1 hN hi hx r1 (fun s2 I2=>⟨_,H1,I2,q1⟩) hf
def rN (i:Nat) (te:TE) (ti:tQ):TS:=fun D σ H=>fO i σ fun x=>te σ H fun y H1=>ti x y H1 fun z H2=>D.nx (σ.set i (some z)) H2
theorem wj {i:Nat} {x:Str} {e:Expr} {te:TE} {op:Operator} {ti:tQ} {pos':Pos} (hN:X.N.Nodup) (hi:X.N[i]?=some x) (hx:Loc X.env.scope x) (he:PE X e te) (ho:v8 X op ti) (hf:X.fn x=true\/X.env.scope.names.lookup x=some .local) :
  PS X (.AugAssign (.Name x pos') op e pos) (rN i te ti):=by
 intro pins s σ H D I h;obtain ⟨v,e1,h⟩:=vR h;obtain ⟨m,hn,hl⟩:=I.loc;have vis:tH X.env.scope x:=by rcases hx with k | k;exact .inl k;exact .inr (.inl k)
 obtain ⟨u,r,l⟩:=hl i x v hi e1 vis;refine wpAny_AugAssign_Name ?_;have go:wpAny (model X.prog X.w) X.A (eval e X.env) (fun w s₂=>wpAny (model X.prog X.w) X.A (inplaceOp op u w) (fun r s₃=>wpAny (model X.prog X.w) X.A (storeName X.env x r) (fun _=>SP X pins D .next) X.xe s₃) X.xe s₂) X.xe s:=by
  refine aG (he pins s σ H _ I h) fun w s1 ⟨y,H1,I1,r1,q1⟩=>?_
  refine aG (ho pins s1 σ H1 v y u w _ I1 r r1 q1) fun z s2 ⟨zv,H2,I2,r2,q2⟩=>?_
  exact U9 I2 hN hi hx r2 (fun s3 I3=>⟨_,H2,I3,q2⟩) hf
 rcases l with ⟨hk,hm⟩ | ⟨hk,c,hc,hcell⟩
 ·exact wpAny_loadName_local I.ok.kind hk hn hm go
 ·rcases hk with hk | hk
  ·exact wpAny_loadName_cell I.ok.kind hk hc hcell go
  ·rcases hx with k | k
   ·have:X.env.scope.names.lookup x=some .free:=hk
    rw [k] at this;cases this
   ·have:X.env.scope.names.lookup x=some .free:=hk
    rw [k] at this;cases this
def tU (f:Int->Int->Int):tQ:=fun x y H Q=>kI x fun i=>kI y fun j=>Q (.int (f i j)) H
theorem jq {x y:V} {k:Int->Int->Prop} (h:kI x fun i=>kI y fun j=>k i j):∃ i j,x = .int i/\y = .int j/\k i j:=by
 obtain ⟨i,e,h⟩:=QK.mp h;obtain ⟨j,e',h⟩:=QK.mp h;exact ⟨i,j,e,e',h⟩
theorem Pz:v8 X .Add (tU fun i j=>i+j):=by
 intro pins s σ H x y v u Q I r1 r2 h;obtain ⟨i,j,e1,e2,q⟩:=jq h;subst e1;subst e2;obtain ⟨t,rfl⟩:=r1;obtain ⟨t',rfl⟩:=r2;exact iadd_int ⟨.int _,H,I.tok _,⟨_,rfl⟩,q⟩
theorem Fq:v8 X .Sub (tU fun i j=>i - j):=by
 intro pins s σ H x y v u Q I r1 r2 h;obtain ⟨i,j,e1,e2,q⟩:=jq h;subst e1;subst e2;obtain ⟨t,rfl⟩:=r1;obtain ⟨t',rfl⟩:=r2;exact isub_int ⟨.int _,H,I.tok _,⟨_,rfl⟩,q⟩
def Ft (c:TT) (tb:TS):TS:=fun D σ H=>∃ W:Nat->St->Hp->Prop,(∃ m,W m σ H)/\∀ m σ H,W m σ H ->
 c σ H fun b H1=>if b=true then ∃ N:St->Hp->Prop,(∀ σ' H',N σ' H'->∃ m',m'<m/\W m' σ' H')/\tb { D with nx:=N,ct:=N,bk:=D.nx } σ H1 else D.nx σ H1
theorem Wy {c:Expr} {body:List Stmt} {tc:TT} {tb:TS} (hp:PassesOwn (model X.prog X.w) X.A X.env X.xe) (hc:PT X c tc) (hb:dM X body tb):PS X (.While c body [] pos) (Ft tc tb):=by
 intro pins s σ H D I h;obtain ⟨W,⟨m0,w0⟩,turn⟩:=h;refine wpAny_While (codeAny_whileLoop (fun n s'=>∃ σ' H',Inv X pins σ' H' s'/\W n σ' H') ?_ m0 ⟨σ,H,I,w0⟩);rintro n s1 ⟨σ1,H1,I1,w1⟩;refine wpAny_passesOwn hp (aG (hc pins s1 σ1 H1 _ I1 (turn n σ1 H1 w1)) fun b s2 ⟨H2,I2,q2⟩=>?_)
 cases b with
 | true =>
  obtain ⟨N,hN,q2⟩:=q2;rw [if_pos rfl];refine wpAny_passesOwn hp (aG (hb pins s2 σ1 H2 _ I2 q2) fun f s3 q3=>?_)
  cases f with
  | next =>
   obtain ⟨σ3,H3,I3,n3⟩:=q3;obtain ⟨m',hm,w3⟩:=hN σ3 H3 n3;exact ⟨m',hm,σ3,H3,I3,w3⟩
  | cont =>
   obtain ⟨σ3,H3,I3,n3⟩:=q3;obtain ⟨m',hm,w3⟩:=hN σ3 H3 n3;exact ⟨m',hm,σ3,H3,I3,w3⟩
  | brk=>exact q3
  | ret v=>exact q3
 | false =>
  rw [if_neg Bool.false_ne_true];exact wpAny_execs_nil ⟨σ1,H2,I2,q2⟩
end
structure It where
 go:Nat->Hp->Prop
 mD:Nat->Hp->V->Hp->Prop
 stop:Nat->Hp->Prop
def Wm (X:Cx) (pins:List (Addr×Obj)) (H:Hp) (b:Addr):Prop :=
 H b=none/\b≠X.env.locals/\b∉X.fs/\(b∈X.ex\/X.s₀.heap.objs.size<=b)/\(∀ x c,X.env.cells.lookup x=some c->c≠b)/\∀ p∈X.pn++pins,p.1≠b
theorem Inv.fC {X:Cx} {pins:List (Addr×Obj)} {σ:St} {H H':Hp} {s:Shared} {b:Addr} (I:Inv X pins σ H s) (hb:s.heap.objs.size<=b) (hn:H' b=none):Wm X pins H' b:=by
 refine ⟨hn,Nat.ne_of_gt (Nat.lt_of_lt_of_le I.lt hb),I.Nv hb,.inr (Nat.le_trans I.sz hb),fun x c e z=>?_,fun p hp z=>?_⟩
 ·obtain ⟨v,q⟩:=I.cell x c e
  exact absurd (Nat.lt_of_lt_of_le q.lt (by rw [z];exact hb)) (Nat.lt_irrefl _)
 ·exact absurd (Nat.lt_of_lt_of_le (Heap.lt_size (I.pin p hp).1) (by rw [z];exact hb)) (Nat.lt_irrefl _)
structure Turn (P:Program) (w:World) (K:W.Frag) (tg:Expr) (J:It) (fp:List Addr) (it:Addr) (tn:Nat->Heap->Prop):Prop where
 mem:it∈fp
 obj:∀ i h,tn i h->∀ b∈fp,∃ o,h.get? b=some o/\∀ v,o.data ≠ .cell v
 keep:∀ i h h',tn i h->(∀ b∈fp,∀ o,h.get? b=some o->h'.get? b=some o)->tn i h'
 item:∀ (X:Cx),X.prog=P->X.w=w->X.K=K->X.calm=true->∀ (i:Nat) (pins:List (Addr×Obj)) (s:Shared) (σ:St) (H:Hp) (E:Value->Shared->Prop),Inv X pins σ H s->(∀ b∈fp,Wm X pins H b)->tn i s.heap->J.go i H ->
  wpAny (model P w) X.A (pyNext (.ref it)) (fun r s1=>∃ u,r=some u /\
   wpAny (model P w) X.A (letOwnedTupleGo tg (.ref it) u) (fun _ s2=>∃ x H',Inv X pins σ H' s2/\YF x u/\J.mD i H x H'/\tn (i+1) s2.heap/\∀ b∈fp,H' b=none) E s1) E s
 done:∀ (X:Cx),X.prog=P->X.w=w->X.K=K->X.calm=true->∀ (i:Nat) (pins:List (Addr×Obj)) (s:Shared) (σ:St) (H:Hp) (E:Value->Shared->Prop),Inv X pins σ H s->(∀ b∈fp,Wm X pins H b)->tn i s.heap->J.stop i H ->
  wpAny (model P w) X.A (pyNext (.ref it)) (fun r s1=>r=none/\Inv X pins σ H s1) E s
 self:∀ (A:Around) (i:Nat) (s:Shared) (Q:Value->Shared->Prop) (E:Value->Shared->Prop),tn i s.heap->Q (.ref it) s->wpAny (model P w) A (pyIter (.ref it)) Q E s
abbrev TI:=St->Hp->(It->Hp->Prop)->Prop
def PIE (X:Cx) (pins:List (Addr×Obj)) (σ:St) (tg:Expr) (R:It->Hp->Prop) (itv:Value) (s2:Shared):Prop :=
 ∃ (it:Addr) (fp:List Addr) (tn:Nat->Heap->Prop) (J:It) (H':Hp),itv = .ref it/\Inv X pins σ H' s2/\Turn X.prog X.w X.K tg J fp it tn/\tn 0 s2.heap/\(∀ b∈fp,Wm X pins H' b)/\R J H'
def PI (X:Cx) (tg iter:Expr) (wi:TI):Prop :=
 ∀ (pins:List (Addr×Obj)) (s:Shared) (σ:St) (H:Hp) (R:It->Hp->Prop),Inv X pins σ H s->wi σ H R ->
  wpAny (model X.prog X.w) X.A (eval iter X.env) (fun v s1=>wpAny (model X.prog X.w) X.A (pyIter v) (PIE X pins σ tg R) X.xe s1) X.xe s
theorem tV {M:Model} {A:Around} {E:Value->Shared->Prop} {s:Shared} {tg:Expr} {it:Addr} {u:Value} {o:Obj} {n:String} {vs:Array Value} {Q:Unit->Shared->Prop} (ho:s.heap.get? it=some o) (hc:o.cls = .type n) (hd:o.data = .fields vs)
  (hn:["enumerate","zip","dict_itemiterator","dict_reverseitemiterator","odict_iterator","itertools.zip_longest","itertools.pairwise"].contains n=false) (hQ:Q () s):wpAny M A (letOwnedTupleGo tg (.ref it) u) Q E s:=by
 unfold letOwnedTupleGo
 cases tg<;>first
  | exact wpAny_pure hQ
  | (cases u<;>first
    | exact wpAny_pure hQ
    | (refine wpAny_bind (wpAny_load ho ?_)
       rw [hc,hd]
       show wpAny M A (if (["enumerate","zip","dict_itemiterator","dict_reverseitemiterator","odict_iterator","itertools.zip_longest","itertools.pairwise"].contains n&&vs[0]?==some (rawInt _))=true then _ else _) Q E s
       rw [if_neg (by intro h;rw [hn,Bool.false_and] at h;cases h)];exact wpAny_pure hQ))
def mF (K:W.Frag) (a:Addr):It :=
 ⟨fun i H=>∃ xs x,ao K H a xs/\xs[i]?=some x,fun i H x H'=>H'=H/\∀ xs,ao K H a xs->xs[i]?=some x,fun i H=>∃ xs,ao K H a xs/\xs.length<=i⟩
def wu (K:W.Frag) (a:Addr):It :=
 ⟨fun i H=>∃ xs x,au K H a xs/\xs[i]?=some x,fun i H x H'=>H'=H/\∀ xs,au K H a xs->xs[i]?=some x,fun i H=>∃ xs,au K H a xs/\xs.length<=i⟩
def tW (lo:Int) (n:Nat):It:=⟨fun i _=>i<n,fun i H x H'=>H'=H/\x = .int (lo+i),fun i _=>n<=i⟩
theorem PJ {P:Program} {w:World} {K:W.Frag} {tg:Expr} (a it:Addr):Turn P w K tg (mF K a) [it] it (fun i h=>h.IsListIter it a i) where
 mem:=by simp
 obj:=fun i h st b hb=>by
  have e:b=it:=by simpa using hb
  subst e;obtain ⟨o,e,c,d⟩:=st;exact ⟨o,e,fun v z=>by rw [d] at z;cases z⟩
 keep:=fun i h h' st k=>st.at fun o e=>k it (by simp) o e
 item:=by
  intro X hP hw hK hc i pins s σ H E I hf st hg;subst hP hw hK;obtain ⟨xs,x,hq,hx⟩:=hg;obtain ⟨its,rv,p,hz⟩:=I.list hq;obtain ⟨u,hu,ru⟩:=rv.get hx;obtain ⟨f0,f1,f2,f3,f4,f5⟩:=hf it (by simp);refine wpAny_pyNext_list_item st p.isList (x:=u) (by simpa using hu) fun h' st' sb=>?_
  have I1:Inv X pins σ H { s with heap:=h' }:=I.turned (t':=s.toks) (fun b o hb e=>(sb.2 b hb).trans e) f0 f1 f3 f4 f5;obtain ⟨o,e,c,d⟩:=id st';exact ⟨u,rfl,tV (s:={ s with heap:=h' }) e c d (by decide) ⟨x,H,I1,ru,⟨rfl,fun ys hy=>by rw [I.jl hy hq];exact hx⟩,st',fun b hb=>(hf b hb).1⟩⟩
 done:=by
  intro X hP hw hK hc i pins s σ H E I hf st hg;subst hP hw hK;obtain ⟨xs,hq,hx⟩:=hg;obtain ⟨its,rv,p,hz⟩:=I.list hq;obtain ⟨f0,f1,f2,f3,f4,f5⟩:=hf it (by simp);have hl:=rv.length;exact wpAny_pyNext_list_end (I.ok.hd hc) st p.isList (by simp;omega) fun h' eb=>⟨rfl,I.turned (t':=s.toks) (fun b o hb e=>eb b o hb e) f0 f1 f3 f4 f5⟩
 self:=fun _ _ _ _ _ st h=>wpAny_pyIter_listiter st h
theorem PK {P:Program} {w:World} {K:W.Frag} {tg:Expr} (a it:Addr):Turn P w K tg (wu K a) [it] it (fun i h=>h.IsTupleIter it a i) where
 mem:=by simp
 obj:=fun i h st b hb=>by
  have e:b=it:=by simpa using hb
  subst e;obtain ⟨o,e,c,d⟩:=st;exact ⟨o,e,fun v z=>by rw [d] at z;cases z⟩
 keep:=fun i h h' st k=>st.at fun o e=>k it (by simp) o e
 item:=by
  intro X hP hw hK hc i pins s σ H E I hf st hg;subst hP hw hK;obtain ⟨xs,x,hq,hx⟩:=hg;obtain ⟨its,rv,p,hz⟩:=I.tuple hq;obtain ⟨u,hu,ru⟩:=rv.get hx;obtain ⟨f0,f1,f2,f3,f4,f5⟩:=hf it (by simp);refine wpAny_pyNext_tuple_item st (show s.heap.IsTuple a its.toArray from p) (x:=u) (by simpa using hu) fun h' st' sb=>?_
  have I1:Inv X pins σ H { s with heap:=h' }:=I.turned (t':=s.toks) (fun b o hb e=>(sb.2 b hb).trans e) f0 f1 f3 f4 f5;obtain ⟨o,e,c,d⟩:=id st';exact ⟨u,rfl,tV (s:={ s with heap:=h' }) e c d (by decide) ⟨x,H,I1,ru,⟨rfl,fun ys hy=>by rw [I.iC hy hq];exact hx⟩,st',fun b hb=>(hf b hb).1⟩⟩
 done:=by
  intro X hP hw hK hc i pins s σ H E I hf st hg;subst hP hw hK;obtain ⟨xs,hq,hx⟩:=hg;obtain ⟨its,rv,p,hz⟩:=I.tuple hq;obtain ⟨f0,f1,f2,f3,f4,f5⟩:=hf it (by simp);have hl:=rv.length;exact wpAny_pyNext_tuple_end (I.ok.hd hc) st (show s.heap.IsTuple a its.toArray from p) (by simp;omega) fun h' eb=>⟨rfl,I.turned (t':=s.toks) (fun b o hb e=>eb b o hb e) f0 f1 f3 f4 f5⟩
 self:=fun _ _ _ _ _ st h=>wpAny_pyIter_tupleiter st h
theorem PL {P:Program} {w:World} {K:PySem.W.Frag} {tg:Expr} (it:Addr) (lo:Int) (n:Nat):Turn P w K tg (tW lo n) [it] it (fun i h=>IsRangeIter h it (lo+(i:Nat)*1) ((n:Int) - (i:Nat)) 1) where
 mem:=by simp
 obj:=fun i h st b hb=>by
  have e:b=it:=by simpa using hb
  subst e;exact ⟨_,st,fun v z=>by
   have z':Data.fields _=Data.cell v:=z
   cases z'⟩
 keep:=fun i h h' st k=>k it (by simp) _ st
 item:=by
  intro X hP hw hK hc i pins s σ H E I hf st hg;subst hP hw hK;obtain ⟨f0,f1,f2,f3,f4,f5⟩:=hf it (by simp);have W:=Walks.range (prog:=X.prog) (w:=X.w) (I.ok.hd hc) it lo 1 n;refine W.item i s _ _ hg st fun v h' tk hv st' kk=>?_
  obtain ⟨t,rfl⟩:=hv;have I1:Inv X pins σ H { s with heap:=h',toks:=tk }:=I.turned (fun b o hb e=>kk b o (by simpa using hb) e) f0 f1 f3 f4 f5;refine ⟨_,rfl,tV (s:={ s with heap:=h',toks:=tk }) (n:="range_iterator") st' rfl rfl (by decide) ⟨.int (lo+i),H,I1,⟨t,?_⟩,⟨rfl,rfl⟩,st',fun b hb=>(hf b hb).1⟩⟩;rw [Int.mul_one]
 done:=by
  intro X hP hw hK hc i pins s σ H E I hf st hg;subst hP hw hK;obtain ⟨f0,f1,f2,f3,f4,f5⟩:=hf it (by simp);exact wpAny_pyNext_range_end (I.ok.hd hc) st (by have:n<=i:=hg;omega) fun h' eb=>⟨rfl,I.turned (t':=s.toks) (fun b o hb e=>eb b o hb e) f0 f1 f3 f4 f5⟩
 self:=fun _ _ _ _ _ st h=>wpAny_pyIter_rangeiter st h
section
variable {X:Cx} {tg:Expr}
def W0 (K:W.Frag) (tl:TE):TI:=fun σ H R=>tl σ H fun x H1=>∃ a,x = .ref a/\(∃ xs,ao K H1 a xs)/\R (mF K a) H1
def tX (K:W.Frag) (tl:TE):TI:=fun σ H R=>tl σ H fun x H1=>∃ a,x = .ref a/\(∃ xs,au K H1 a xs)/\R (wu K a) H1
theorem Xo {l:Expr} {tl:TE} (hl:PE X l tl):PI X tg l (W0 X.K tl):=by
 intro pins s σ H R I h;refine aG (hl pins s σ H _ I h) fun v s1 ⟨x,H1,I1,r1,q1⟩=>?_
 obtain ⟨a,e,⟨xs,hq⟩,q⟩:=q1;subst e
 cases r1
 obtain ⟨its,rv,p,hz⟩:=I1.list hq;refine wpAny_pyIter_list p.isList ?_;refine ⟨s1.heap.objs.size,[s1.heap.objs.size],_,_,H1,rfl,I1.kept (t':=s1.toks) fun b o e=>Heap.get?_push_of_some _ e,PJ a _,⟨_,Heap.get?_push_size _ rfl,rfl,rfl⟩,fun b hb=>?_,q⟩;have e:b=s1.heap.objs.size:=by simpa using hb
 subst e;exact I1.fC (Nat.le_refl _) (I1.hok.fresh (Nat.le_refl _))
theorem Qk {l:Expr} {tl:TE} (hl:PE X l tl):PI X tg l (tX X.K tl):=by
 intro pins s σ H R I h;refine aG (hl pins s σ H _ I h) fun v s1 ⟨x,H1,I1,r1,q1⟩=>?_
 obtain ⟨a,e,⟨xs,hq⟩,q⟩:=q1;subst e
 cases r1
 obtain ⟨its,rv,p,hz⟩:=I1.tuple hq;refine wpAny_pyIter_tuple (show s1.heap.IsTuple a its.toArray from p) ?_;refine ⟨s1.heap.objs.size,[s1.heap.objs.size],_,_,H1,rfl,I1.kept (t':=s1.toks) fun b o e=>Heap.get?_push_of_some _ e,PK a _,⟨_,Heap.get?_push_size _ rfl,rfl,rfl⟩,fun b hb=>?_,q⟩;have e:b=s1.heap.objs.size:=by simpa using hb
 subst e;exact I1.fC (Nat.le_refl _) (I1.hok.fresh (Nat.le_refl _))
theorem PN {pins:List (Addr×Obj)} {σ:St} {H:Hp} {s:Shared} {R:It->Hp->Prop} {E:Value->Shared->Prop} {lo hi:Int} {t u v:Tok} {tk:Nat} (I:Inv X pins σ H s) (h1 : -(2^62)<=lo) (h2:lo<2^62) (h3 : -(2^62)<=hi) (h4:hi<2^62)
  (q:R (tW lo (hi - lo).toNat) H):wpAny (model X.prog X.w) X.A (pyIter (.ref s.heap.objs.size)) (PIE X pins σ tg R) E { s with heap:=s.heap.push { cls := .type "range",data := .fields #[.int lo t,.int hi u,.int 1 v] },toks:=tk }:=by
 refine wpAny_pyIter_range (IsRange.new ..) (small_one h1 h2 h3 h4) ?_;have I1:Inv X pins σ H { s with heap:=s.heap.push { cls := .type "range",data := .fields #[.int lo t,.int hi u,.int 1 v] },toks:=tk }:=I.kept fun b o e=>Heap.get?_push_of_some _ e
 refine ⟨(s.heap.push { cls := .type "range",data := .fields #[.int lo t,.int hi u,.int 1 v] }).objs.size,[(s.heap.push { cls := .type "range",data := .fields #[.int lo t,.int hi u,.int 1 v] }).objs.size],_,_,H,rfl,
  I1.kept (t':=tk) fun b o e=>Heap.get?_push_of_some _ e,PL _ lo (hi - lo).toNat,?_,fun b hb=>?_,q⟩
 ·have e1:lo+((0:Nat):Int)*1=lo:=by simp
  have e2:(((hi - lo).toNat:Nat):Int) - ((0:Nat):Int)=Builtin.Range.rangeSize lo hi 1:=by rw [rangeSize_one];split<;>omega
  show IsRangeIter _ _ (lo+((0:Nat):Int)*1) ((((hi - lo).toNat:Nat):Int) - ((0:Nat):Int)) 1
  rw [e1,e2];exact Heap.get?_push_size _ rfl
 ·have e:b=(s.heap.push { cls := .type "range",data := .fields #[.int lo t,.int hi u,.int 1 v] }).objs.size:=by simpa using hb
  subst e;exact I1.fC (Nat.le_refl _) (I1.hok.fresh (Nat.le_refl _))
def wA (ta:TA):TI:=fun σ H R=>ta σ H fun vs H1=>∃ j:Int,vs=[.int j] /\ -(2^62)<=j/\j<2^62/\R (tW 0 j.toNat) H1
theorem Vs {a:Expr} {ta:TA} {p pos:Pos} (hg:Gl X "range") (hm:X.mg "range"=none) (ha:PA X [a] ta) (hs:starEach [a] X.env=[(false,eval a X.env)]):PI X tg (.Call (.Name "range" p) [a] [] pos) (wA ta):=by
 intro pins s σ H R I h;refine Call_ (Wl I hg hm boot_range (PyProof.Rows.callWith_type1 (aG (ha pos pins s σ H _ I h) fun us s1 ⟨vs,H1,I1,r1,q1⟩=>?_) hs rfl));obtain ⟨j,e,q1,q2,q⟩:=q1;subst e
 cases r1 with
 | cons r rr =>
  cases rr
  obtain ⟨t,rfl⟩:=r;exact call_range_1 (PN I1 (by omega) (by omega) q1 q2 (by simpa using q))
def QM (wi:TI) (g:TG) (tb:TS):TS:=fun D σ H=>wi σ H fun J H1=>∃ W:Nat->Nat->St->Hp->Prop,(∃ m,W 0 m σ H1)/\∀ i m σ H,W i m σ H ->
 (J.stop i H/\D.nx σ H)\/(J.go i H/\∃ N:St->Hp->Prop,(∀ σ' H',N σ' H'->∃ m',m'<m/\W (i+1) m' σ' H')/\∀ x H',J.mD i H x H'->g x σ H' fun σ2 H2=>tb { D with nx:=N,ct:=N,bk:=D.nx } σ2 H2)
def Um (fp:List Addr) (h:Heap):List (Addr×Obj):=fp.filterMap fun b=>(h.get? b).map fun o=>(b,o)
theorem Wn {fp:List Addr} {h:Heap} {b:Addr} {o:Obj} (hb:b∈fp) (e:h.get? b=some o):(b,o)∈Um fp h:=List.mem_filterMap.mpr ⟨b,hb,by rw [e];rfl⟩
theorem PX {fp:List Addr} {h:Heap} {p:Addr×Obj} (hp:p∈Um fp h):p.1∈fp/\h.get? p.1=some p.2:=by
 obtain ⟨b,hb,e⟩:=List.mem_filterMap.mp hp
 cases q:h.get? b with
 | none=>rw [q] at e;cases e
 | some o =>
  rw [q] at e
  have e':(b,o)=p:=Option.some.inj e;subst e';exact ⟨hb,q⟩
theorem Inv.pinned {pins:List (Addr×Obj)} {σ:St} {H:Hp} {s:Shared} {fp:List Addr} (I:Inv X pins σ H s) (hf:∀ b∈fp,Wm X pins H b) (ho:∀ b∈fp,∃ o,s.heap.get? b=some o/\∀ v,o.data ≠ .cell v):Inv X (pins++Um fp s.heap) σ H s :=
 I.mC fun p hp=>(List.mem_append.mp hp).elim (fun z=>I.pin p (List.mem_append_right _ z)) fun z=>by
  obtain ⟨hb,e⟩:=PX z;obtain ⟨f0,f1,f2,_⟩:=hf p.1 hb;obtain ⟨o,e',d⟩:=ho p.1 hb;rw [e] at e';cases e'
  exact ⟨e,f0,f1,f2,d⟩
theorem Inv.dw {pins pl:List (Addr×Obj)} {σ:St} {H:Hp} {s:Shared} (I:Inv X (pins++pl) σ H s):Inv X pins σ H s:=I.mC fun p hp=>I.pin p (List.mem_append_right _ (List.mem_append_left _ hp))
theorem WN {iter:Expr} {body:List Stmt} {wi:TI} {g:TG} {tb:TS} {pos:Pos} (hp:PassesOwn (model X.prog X.w) X.A X.env X.xe) (hc:X.calm=true) (hi:PI X tg iter wi) (hg:PG X tg g) (hb:dM X body tb)
  (hs:∀ x,foldedSetIterable iter X.env x=pure x):PS X (.For tg iter body [] pos) (QM wi g tb):=by
 intro pins s σ H D I h;refine wpAny_For (aG (hi pins s σ H _ I h) fun v s1 h1=>aG h1 fun itv s2 h2=>?_) hs;obtain ⟨it,fp,tn,J,H2,e,I2,T,st2,f2,W,⟨m0,w0⟩,turn⟩:=h2;subst e
 -- what stays true of the iterator's objects through the loop
 have stat:∀ {H':Hp},(∀ b∈fp,H' b=none)->∀ b∈fp,Wm X pins H' b:=fun hn b hb=>⟨hn b hb,(f2 b hb).2⟩
 refine codeAny_forLoop_any (fun n s'=>∃ i σ' H',Inv X pins σ' H' s'/\tn i s'.heap/\(∀ b∈fp,H' b=none)/\W i n σ' H') ?_ m0 ⟨0,σ,H2,I2,st2,fun b hb=>(f2 b hb).1,w0⟩;rintro n s3 ⟨i,σ3,H3,I3,st3,tY,w3⟩;rcases turn i n σ3 H3 w3 with ⟨stop,qn⟩ | ⟨go,N,hN,step⟩
 ·refine wpAny_passesOwn hp (aG (T.done X rfl rfl rfl hc i pins s3 σ3 H3 X.xe I3 (stat tY) st3 stop) fun r s4 ⟨hr,I4⟩=>?_)
  subst hr;exact wpAny_execs_nil ⟨σ3,H3,I4,qn⟩
 ·refine wpAny_passesOwn hp (aG (T.item X rfl rfl rfl hc i pins s3 σ3 H3 X.xe I3 (stat tY) st3 go) fun r s4 ⟨u,hr,h4⟩=>?_)
  subst hr;refine wpAny_passesOwn hp (aG h4 fun _ s5 ⟨x,H5,I5,r5,y5,mG,tZ⟩=>?_);have Ra:=I5.pinned (stat tZ) (T.obj _ _ mG);refine wpAny_passesOwn hp (aG (hg _ s5 σ3 H5 x u _ Ra r5 (step x H5 y5)) fun _ s6 ⟨Rb,H6,I6,q6⟩=>?_);refine wpAny_passesOwn hp (aG (hb _ s6 Rb H6 _ I6 q6) fun f s7 q7=>?_);have again:∀ {dX:St} {H7:Hp},Inv X (pins++Um fp s5.heap) dX H7 s7->N dX H7->∃ m,m<n/\∃ i σ' H',Inv X pins σ' H' s7/\tn i s7.heap/\(∀ b∈fp,H' b=none)/\W i m σ' H':=fun {dX H7} I7 n7=>by
   obtain ⟨m',hm,w7⟩:=hN dX H7 n7;refine ⟨m',hm,i+1,dX,H7,I7.dw,T.keep _ _ _ mG fun b hb o e=>(I7.pin (b,o) (List.mem_append_right _ (List.mem_append_right _ (Wn hb e)))).1,fun b hb=>?_,w7⟩;obtain ⟨o,e,d⟩:=T.obj _ _ mG b hb;exact (I7.pin (b,o) (List.mem_append_right _ (List.mem_append_right _ (Wn hb e)))).2.1
  cases f with
  | next=>obtain ⟨dX,H7,I7,n7⟩:=q7;exact again I7 n7
  | cont=>obtain ⟨dX,H7,I7,n7⟩:=q7;exact again I7 n7
  | brk=>obtain ⟨dX,H7,I7,q7⟩:=q7;exact ⟨dX,H7,I7.dw,q7⟩
  | ret v=>obtain ⟨x7,dX,H7,I7,r7,q7⟩:=q7;exact ⟨x7,dX,H7,I7.dw,r7,q7⟩
end
theorem Fv {K:PySem.W.Frag} {a:Addr} {xs:List V} {g:TG} {tb:TS} {D:Ends} {σ:St} {H:Hp} (Pv:Nat->St->Hp->Prop) (h0:Pv 0 σ H) (hl:∀ i σ H,i<=xs.length->Pv i σ H->ao K H a xs)
  (hs:∀ i x σ H,xs[i]?=some x->Pv i σ H->g x σ H fun σ2 H2=>tb { D with nx:=Pv (i+1),ct:=Pv (i+1),bk:=D.nx } σ2 H2) (hd:∀ σ H,Pv xs.length σ H->D.nx σ H) :
  ∃ W:Nat->Nat->St->Hp->Prop,(∃ m,W 0 m σ H)/\∀ i m σ H,W i m σ H ->
   ((mF K a).stop i H/\D.nx σ H)\/((mF K a).go i H/\∃ N:St->Hp->Prop,(∀ σ' H',N σ' H'->∃ m',m'<m/\W (i+1) m' σ' H')/\∀ x H',(mF K a).mD i H x H'->g x σ H' fun σ2 H2=>tb { D with nx:=N,ct:=N,bk:=D.nx } σ2 H2):=by
 refine ⟨fun i m σ H=>m=xs.length - i/\i<=xs.length/\Pv i σ H,⟨xs.length,by simp,Nat.zero_le _,h0⟩,?_⟩;rintro i m σ H ⟨rfl,hi,p⟩;have q:=hl i σ H hi p;by_cases hlt:i<xs.length
 ·refine .inr ⟨⟨xs,xs[i],q,by simp [hlt]⟩,Pv (i+1),fun σ' H' p'=>⟨xs.length - (i+1),by omega,rfl,hlt,p'⟩,fun x H' y=>?_⟩
  obtain ⟨e,y⟩:=y;subst e;exact hs i x σ _ (y xs q) p
 ·have e:i=xs.length:=by omega
  subst e;exact .inl ⟨⟨xs,q,Nat.le_refl _⟩,hd σ H p⟩
abbrev R2:=V->V->Hp->VK->Prop
def bw (X:Cx) (f:Value->Value->Sem Value) (r:R2):Prop :=
 ∀ (pins:List (Addr×Obj)) (s:Shared) (σ:St) (H:Hp) (x y:V) (v u:Value) (Q:VK),Inv X pins σ H s->YF x v->YF y u->r x y H Q ->
  wpAny (model X.prog X.w) X.A (f v u) (EP X pins σ Q) X.xe s
def wB (X:Cx) (f:Value->Sem Value) (r:V->Hp->VK->Prop):Prop :=
 ∀ (pins:List (Addr×Obj)) (s:Shared) (σ:St) (H:Hp) (x:V) (v:Value) (Q:VK),Inv X pins σ H s->YF x v->r x H Q ->
  wpAny (model X.prog X.w) X.A (f v) (EP X pins σ Q) X.xe s
def X0 (X:Cx) (f:Value) (r:List V->Hp->VK->Prop):Prop :=
 ∀ (pins:List (Addr×Obj)) (s:Shared) (σ:St) (H:Hp) (xs:List V) (us:List Value) (Q:VK),Inv X pins σ H s->Yx xs us->r xs H Q ->
  wpAny (model X.prog X.w) X.A (call f us) (EP X pins σ Q) X.xe s
def iD (r:R2) (ta tb:TE):TE:=fun σ H Q=>ta σ H fun x H1=>tb σ H1 fun y H2=>r x y H2 Q
def wC (r:V->Hp->VK->Prop) (ta:TE):TE:=fun σ H Q=>ta σ H fun x H1=>r x H1 Q
def rI (C:Int->Int->Prop) (g:Int->Int->V):R2:=fun x y H Q=>kI x fun i=>kI y fun j=>C i j/\Q (g i j) H
def fQ (g:Int->Int->V):R2:=fun x y H Q=>kI x fun i=>kI y fun j=>Q (g i j) H
def rU (g:Int->V):V->Hp->VK->Prop:=fun x H Q=>kI x fun i=>Q (g i) H
section
variable {X:Cx} {a b c:Expr} {ta tb tc:TE} {pos:Pos}
theorem rO (ha:PE X a ta) (hb:PE X b tb) {pins:List (Addr×Obj)} {s:Shared} {σ:St} {H:Hp} {R:V->V->Hp->Prop} (I:Inv X pins σ H s)
  (h:ta σ H fun x H1=>tb σ H1 fun y H2=>R x y H2) {Q:Value->Shared->Prop} {f:Value->Value->Sem Value}
  (hf:∀ v u s2 x y H2,Inv X pins σ H2 s2->YF x v->YF y u->R x y H2->wpAny (model X.prog X.w) X.A (f v u) Q X.xe s2) :
  wpAny (model X.prog X.w) X.A (eval a X.env) (fun v s₁=>wpAny (model X.prog X.w) X.A (eval b X.env) (fun u s₂=>wpAny (model X.prog X.w) X.A (f v u) Q X.xe s₂) X.xe s₁) X.xe s:=by
 refine aG (ha pins s σ H _ I h) fun v s1 ⟨x,H1,I1,r1,q1⟩=>?_
 refine aG (hb pins s1 σ H1 _ I1 q1) fun u s2 ⟨y,H2,I2,r2,q2⟩=>?_
 exact hf v u s2 x y H2 I2 r1 r2 q2
theorem YR {op:Operator} {r:R2} (ho:bw X (binaryOp op) r) (ha:PE X a ta) (hb:PE X b tb):PE X (.BinOp a op b pos) (iD r ta tb):=by
 intro pins s σ H Q I h;exact wpAny_BinOp (rO ha hb I h fun v u s2 x y H2 I2 rx ry q=>ho pins s2 σ H2 x y v u Q I2 rx ry q)
theorem Ql {op:UnaryOp} {r:V->Hp->VK->Prop} (ho:wB X (unaryOp op) r) (ha:PE X a ta):PE X (.UnaryOp op a pos) (wC r ta):=by
 intro pins s σ H Q I h;exact UnaryOp_ (aG (ha pins s σ H _ I h) fun v s1 ⟨x,H1,I1,r1,q1⟩=>ho pins s1 σ H1 x v Q I1 r1 q1)
theorem mH {f:Value->Value->Sem Value} {C:Int->Int->Prop} {g:Int->Int->Int}
  (rule:∀ (i j:Int) (t u:Tok) (s:Shared) (Q:Value->Shared->Prop) (E:Value->Shared->Prop),C i j->Q (.int (g i j) s.toks) { s with toks:=s.toks+1 }->wpAny (model X.prog X.w) X.A (f (.int i t) (.int j u)) Q E s) :
  bw X f (rI C fun i j => .int (g i j)):=by
 intro pins s σ H x y v u Q I rx ry h
 replace h:=jq h
 obtain ⟨i,j,rfl,rfl,hc,q⟩:=h;obtain ⟨t,rfl⟩:=rx;obtain ⟨t',rfl⟩:=ry;exact rule i j t t' s _ _ hc ⟨.int (g i j),H,I.tok _,⟨_,rfl⟩,q⟩
theorem wD {f:Value->Value->Sem Value} {g:Int->Int->Int}
  (rule:∀ (i j:Int) (t u:Tok) (s:Shared) (Q:Value->Shared->Prop) (E:Value->Shared->Prop),Q (.int (g i j) s.toks) { s with toks:=s.toks+1 }->wpAny (model X.prog X.w) X.A (f (.int i t) (.int j u)) Q E s) :
  bw X f (fQ fun i j => .int (g i j)):=by
 intro pins s σ H x y v u Q I rx ry h
 replace h:=jq h
 obtain ⟨i,j,rfl,rfl,q⟩:=h;obtain ⟨t,rfl⟩:=rx;obtain ⟨t',rfl⟩:=ry;exact rule i j t t' s _ _ ⟨.int (g i j),H,I.tok _,⟨_,rfl⟩,q⟩
theorem uc {f:Value->Value->Sem Value} {g:Int->Int->Bool}
  (rule:∀ (i j:Int) (t u:Tok) (s:Shared) (Q:Value->Shared->Prop) (E:Value->Shared->Prop),Q (.bool (g i j)) s->wpAny (model X.prog X.w) X.A (f (.int i t) (.int j u)) Q E s) :
  bw X f (fQ fun i j => .bl (g i j)):=by
 intro pins s σ H x y v u Q I rx ry h
 replace h:=jq h
 obtain ⟨i,j,rfl,rfl,q⟩:=h;obtain ⟨t,rfl⟩:=rx;obtain ⟨t',rfl⟩:=ry;exact rule i j t t' s _ _ ⟨.bl (g i j),H,I,rfl,q⟩
def rP (i j:Int):Prop:=0<=j/\j<=1000000/\i.natAbs<2^64
def rQ (i j:Int):Prop:=(-(2^64)<i/\i<2^64)\/(-(2^64)<j/\j<2^64)
theorem rQ.ok {i j:Int} (h:rQ i j):IntMulOk i j:=by
 rcases h with ⟨h1,h2⟩ | ⟨h1,h2⟩
 ·exact .of_left (intBits_le_64 h1 h2)
 ·exact .of_right (intBits_le_64 h1 h2)
theorem Rc (k:Nat):(0:Int)<=2^k:=by
 rw [two_pow_cast];exact Int.natCast_nonneg _
theorem Wp:bw X (binaryOp .Add) (fQ fun i j => .int (i+j)):=wD fun _ _ _ _ _ _ _ q=>add_int q
theorem WO:bw X (binaryOp .Sub) (fQ fun i j => .int (i - j)):=wD fun _ _ _ _ _ _ _ q=>sub_int q
theorem Ve:bw X (binaryOp .Mod) (rI (fun _ j=>0<j) fun i j => .int (i%j)):=mH fun i j _ _ _ _ _ hc q=>by
 have h1:(0:Int)<j:=hc;exact mod_int' (by omega) (by rw [Int.fmod_eq_emod_of_nonneg i (by omega)];exact q)
theorem Rf:bw X (binaryOp .Pow) (rI rP fun i j => .int (i^j.toNat)):=mH fun _ _ _ _ _ _ _ hc q=>pow_int_small hc.1 hc.2.1 hc.2.2 q
theorem Fw:bw X (binaryOp .LShift) (rI rP fun i j => .int (i*2^j.toNat)):=mH fun _ _ _ _ _ _ _ hc q=>lshift_int_small hc.1 hc.2.1 hc.2.2 q
theorem Rg:bw X (binaryOp .RShift) (rI (fun _ j=>0<=j) fun i j => .int (i / 2^j.toNat)):=mH fun i j _ _ _ _ _ hc q =>
 rshift_int hc (by rw [Int.fdiv_eq_ediv_of_nonneg i (Rc _)];exact q)
theorem Rh {f:Value->Sem Value} {g:Int->Int}
  (rule:∀ (i:Int) (t:Tok) (s:Shared) (Q:Value->Shared->Prop) (E:Value->Shared->Prop),Q (.int (g i) s.toks) { s with toks:=s.toks+1 }->wpAny (model X.prog X.w) X.A (f (.int i t)) Q E s) :
  wB X f (rU fun i => .int (g i)):=by
 intro pins s σ H x v Q I rx h;obtain ⟨i,rfl,q⟩:=QK.mp h;obtain ⟨t,rfl⟩:=rx;exact rule i t s _ _ ⟨.int (g i),H,I.tok _,⟨_,rfl⟩,q⟩
theorem Uo:wB X (unaryOp .USub) (rU fun i => .int (-i)):=Rh fun _ _ _ _ _ q=>neg_int q
end
def pF:V->V->Bool
 | .non,.non=>true | .non,.int _=>true | .int _,.non=>true | .non,.bl _=>true | .bl _,.non=>true | .non,.str _=>true | .str _,.non=>true
 | .int _,.int _=>true | .bl _,.bl _=>true | .str _,.str _=>true | .eU _,.eU _=>true
 | .int _,.str _=>true | .str _,.int _=>true | .bl _,.str _=>true | .str _,.bl _=>true
 | _,_=>false
def kEq (x y:V) (k:Bool->Prop):Prop:=match x,y with
 | .int i,.int j=>k (decide (i=j))
 | .str i,.str j=>k (decide (i=j))
 | x,y=>pF x y=true/\k (decide (x=y))
theorem Fx (i j:Int) (k:Bool->Prop):kEq (.int i) (.int j) k=k (decide (i=j)):=rfl
theorem Fy (i j:Str) (k:Bool->Prop):kEq (.str i) (.str j) k=k (decide (i=j)):=rfl
theorem wF {x y:V} {k:Bool->Prop}:kEq x y k↔pF x y=true/\k (decide (x=y)):=by
 unfold kEq
 split
 ·rename_i i j
  rw [show decide (V.int i=V.int j)=decide (i=j) from by simp];exact ⟨fun h=>⟨rfl,h⟩,fun h=>h.2⟩
 ·rename_i i j
  rw [show decide (V.str i=V.str j)=decide (i=j) from by simp];exact ⟨fun h=>⟨rfl,h⟩,fun h=>h.2⟩
 ·exact Iff.rfl
def pG:R2:=fun x y H Q=>kEq x y fun b=>Q (.bl b) H
def wG:R2:=fun x y H Q=>kEq x y fun b=>Q (.bl (!b)) H
theorem Fz {i j:Int}:decide (V.int i=V.int j)=(i==j):=by
 rw [Bool.eq_iff_iff];simp
theorem FJ {i j:Bool}:decide (V.bl i=V.bl j)=(i==j):=by
 rw [Bool.eq_iff_iff];simp
theorem FN {i j:Str}:decide (V.str i=V.str j)=(i==j):=by
 rw [Bool.eq_iff_iff];simp
theorem FP {i j:Array UInt8}:decide (V.eU i=V.eU j)=(i.toList==j.toList):=by
 rw [Bool.eq_iff_iff]
 cases i
 cases j
 simp
section
variable {X:Cx} {a b c:Expr} {ta tb tc:TE} {pos:Pos}
theorem YO {pins:List (Addr×Obj)} {σ:St} {H:Hp} {s:Shared} {Q:VK} {k k':Bool} (I:Inv X pins σ H s) (q:Q (.bl k) H) (e:k=k'):EP X pins σ Q (.bool k') s:=by
 subst e;exact ⟨.bl k,H,I,rfl,q⟩
theorem YC:bw X (compareOp .Eq) pG:=by
 intro pins s σ H x y v u Q I rx ry h;obtain ⟨hs,q⟩:=wF.mp h
 cases x with
 | non =>
  cases rx
  cases y with
  | non=>cases ry;exact PySem.EqNone.eq_none_none (YO I q (by simp))
  | bl j=>cases ry;exact PySem.EqNone.eq_none_bool (YO I q (by simp))
  | int j=>obtain ⟨t',rfl⟩:=ry;exact PySem.EqNone.eq_none_int (YO I q (by simp))
  | str j=>obtain ⟨t',rfl⟩:=ry;exact PySem.EqNone.eq_none_str (YO I q (by simp))
  | _=>exact absurd (show false=true from hs) Bool.false_ne_true
 | bl i =>
  cases rx
  cases y with
  | non=>cases ry;exact PySem.EqNone.eq_bool_none (YO I q (by simp))
  | bl j=>cases ry;exact eq_bool (YO I q FJ)
  | str j=>obtain ⟨t',rfl⟩:=ry;exact PySem.EqMixed.eq_bool_str (YO I q (by simp))
  | _=>exact absurd (show false=true from hs) Bool.false_ne_true
 | int i =>
  obtain ⟨t,rfl⟩:=rx
  cases y with
  | non=>cases ry;exact PySem.EqNone.eq_int_none (YO I q (by simp))
  | int j=>obtain ⟨t',rfl⟩:=ry;exact eq_int (YO I q Fz)
  | str j=>obtain ⟨t',rfl⟩:=ry;exact PySem.EqMixed.eq_int_str (YO I q (by simp))
  | _=>exact absurd (show false=true from hs) Bool.false_ne_true
 | str i =>
  obtain ⟨t,rfl⟩:=rx
  cases y with
  | non=>cases ry;exact PySem.EqNone.eq_str_none (YO I q (by simp))
  | bl j=>cases ry;exact PySem.EqMixed.eq_str_bool (YO I q (by simp))
  | int j=>obtain ⟨t',rfl⟩:=ry;exact PySem.EqMixed.eq_str_int (YO I q (by simp))
  | str j=>obtain ⟨t',rfl⟩:=ry;exact eq_str (YO I q FN)
  | _=>exact absurd (show false=true from hs) Bool.false_ne_true
 | eU i =>
  obtain ⟨t,rfl⟩:=rx
  cases y with
  | eU j=>obtain ⟨t',rfl⟩:=ry;exact W.eq_bytes (YO I q FP)
  | _=>exact absurd (show false=true from hs) Bool.false_ne_true
 | _=>cases y<;>exact absurd (show false=true from hs) Bool.false_ne_true
theorem V7:bw X (compareOp .NotEq) wG:=by
 intro pins s σ H x y v u Q I rx ry h;obtain ⟨hs,q⟩:=wF.mp h
 cases x with
 | non =>
  cases rx
  cases y with
  | non=>cases ry;exact PySem.EqNone.ne_none_none (YO I q (by simp))
  | bl j=>cases ry;exact PySem.EqNone.ne_none_bool (YO I q (by simp))
  | int j=>obtain ⟨t',rfl⟩:=ry;exact PySem.EqNone.ne_none_int (YO I q (by simp))
  | str j=>obtain ⟨t',rfl⟩:=ry;exact PySem.EqNone.ne_none_str (YO I q (by simp))
  | _=>exact absurd (show false=true from hs) Bool.false_ne_true
 | bl i =>
  cases rx
  cases y with
  | non=>cases ry;exact PySem.EqNone.ne_bool_none (YO I q (by simp))
  | bl j=>cases ry;exact ne_bool (YO I q (congrArg not FJ))
  | str j=>obtain ⟨t',rfl⟩:=ry;exact PySem.EqMixed.ne_bool_str (YO I q (by simp))
  | _=>exact absurd (show false=true from hs) Bool.false_ne_true
 | int i =>
  obtain ⟨t,rfl⟩:=rx
  cases y with
  | non=>cases ry;exact PySem.EqNone.ne_int_none (YO I q (by simp))
  | int j=>obtain ⟨t',rfl⟩:=ry;exact ne_int (YO I q (congrArg not Fz))
  | str j=>obtain ⟨t',rfl⟩:=ry;exact PySem.EqMixed.ne_int_str (YO I q (by simp))
  | _=>exact absurd (show false=true from hs) Bool.false_ne_true
 | str i =>
  obtain ⟨t,rfl⟩:=rx
  cases y with
  | non=>cases ry;exact PySem.EqNone.ne_str_none (YO I q (by simp))
  | bl j=>cases ry;exact PySem.EqMixed.ne_str_bool (YO I q (by simp))
  | int j=>obtain ⟨t',rfl⟩:=ry;exact PySem.EqMixed.ne_str_int (YO I q (by simp))
  | str j=>obtain ⟨t',rfl⟩:=ry;exact ne_str (YO I q (congrArg not FN))
  | _=>exact absurd (show false=true from hs) Bool.false_ne_true
 | eU i =>
  obtain ⟨t,rfl⟩:=rx
  cases y with
  | eU j=>obtain ⟨t',rfl⟩:=ry;exact W.ne_bytes (YO I q (congrArg not FP))
  | _=>exact absurd (show false=true from hs) Bool.false_ne_true
 | _=>cases y<;>exact absurd (show false=true from hs) Bool.false_ne_true
theorem DY:bw X (compareOp .Lt) (fQ fun i j => .bl (decide (i<j))):=uc fun _ _ _ _ _ _ _ q=>lt_int q
theorem WH:bw X (compareOp .LtE) (fQ fun i j => .bl (decide (i<=j))):=uc fun _ _ _ _ _ _ _ q=>le_int q
theorem Ea:bw X (compareOp .Gt) (fQ fun i j => .bl (decide (j<i))):=uc fun _ _ _ _ _ _ _ q=>gt_int q
theorem Eb:bw X (compareOp .GtE) (fQ fun i j => .bl (decide (j<=i))):=uc fun _ _ _ _ _ _ _ q=>ge_int q
theorem FQ:bw X (compareOp .Is) (fun x y H Q=>y = .non/\Q (.bl (decide (x = .non))) H):=by
 intro pins s σ H x y v u Q I rx ry h;obtain ⟨rfl,q⟩:=h
 cases ry
 refine is_none_gen (YO I q ?_)
 cases x<;>first
  | (cases rx;rfl)
  | (obtain ⟨t,rfl⟩:=rx;rfl)
theorem FT:bw X (compareOp .IsNot) (fun x y H Q=>y = .non/\Q (.bl (!decide (x = .non))) H):=by
 intro pins s σ H x y v u Q I rx ry h;obtain ⟨rfl,q⟩:=h
 cases ry
 refine isnot_none_gen (YO I q ?_)
 cases x<;>first
  | (cases rx;rfl)
  | (obtain ⟨t,rfl⟩:=rx;rfl)
theorem Yn (b:Expr) {op:CmpOp} (h:op ≠ .In:=by decide) (h2:op ≠ .NotIn:=by decide):behindInMarks op b=false:=by
 have e1:(op==CmpOp.In)=false:=by cases op<;>first | rfl | exact absurd rfl h
 have e2:(op==CmpOp.NotIn)=false:=by cases op<;>first | rfl | exact absurd rfl h2
 cases b<;>simp [behindInMarks,e1,e2]
theorem X1 {op:CmpOp} {r:R2} (ho:bw X (compareOp op) r) (ha:PE X a ta) (hb:PE X b tb) (hm:behindInMarks op b=false):PE X (.Compare a [op] [b] pos) (iD r ta tb):=by
 intro pins s σ H Q I h;exact wpAny_Compare1 (rO ha hb I h fun v u s2 x y H2 I2 rx ry q=>ho pins s2 σ H2 x y v u Q I2 rx ry q) hm
def UI (t:TE):TT:=fun σ H Q=>t σ H fun x H'=>kB x fun k=>Q k H'
theorem Yl {op:CmpOp} {r:R2} (ho:bw X (compareOp op) r) (ha:PE X a ta) (hb:PE X b tb) (hm:behindInMarks op b=false):PT X (.Compare a [op] [b] pos) (UI (iD r ta tb)):=by
 intro pins s σ H Q I h;refine wpAny_isTrue_Compare1 (aG (ha pins s σ H _ I h) fun v s1 ⟨x,H1,I1,r1,q1⟩=>aG (hb pins s1 σ H1 _ I1 q1) fun u s2 ⟨y,H2,I2,r2,q2⟩ =>
  aG (ho pins s2 σ H2 x y v u _ I2 r1 r2 q2) fun c s3 ⟨z,H3,I3,r3,q3⟩=>?_) hm
 replace q3:=Ul.mp q3
 obtain ⟨k,e,q3⟩:=q3;subst e
 cases r3
 exact wpAny_truthy_bool ⟨H3,I3,q3⟩
def Qm (r r':R2) (ta tb tc:TE):TE:=fun σ H Q=>ta σ H fun x H1=>tb σ H1 fun y H2=>r x y H2 fun z H3=>kB z fun k =>
 (if k=true then tc σ H3 fun w' H4=>r' y w' H4 Q else Q (.bl false) H3)
theorem FW {op op':CmpOp} {r r':R2} (ho:bw X (compareOp op) r) (ho':bw X (compareOp op') r') (ha:PE X a ta) (hb:PE X b tb) (hc:PE X c tc)
  (hm:lastMarks [op,op'] [b,c]=false):PE X (.Compare a [op,op'] [b,c] pos) (Qm r r' ta tb tc):=by
 intro pins s σ H Q I h;refine Compare_chain (aG (ha pins s σ H _ I h) fun v s1 ⟨x,H1,I1,r1,q1⟩=>chain_link (aG (hb pins s1 σ H1 _ I1 q1) fun u s2 ⟨y,H2,I2,r2,q2⟩ =>
  aG (ho pins s2 σ H2 x y v u _ I2 r1 r2 q2) fun d s3 ⟨z,H3,I3,r3,q3⟩=>?_)) hm
 replace q3:=Ul.mp q3
 obtain ⟨k,e,q3⟩:=q3;subst e
 cases r3
 refine wpAny_truthy_bool ?_
 cases k with
 | false=>exact ite_ff ⟨.bl false,H3,I3,rfl,q3⟩
 | true=>exact ite_tt (chain_last (aG (hc pins s3 σ H3 _ I3 q3) fun w' s4 ⟨z',H4,I4,r4,q4⟩=>ho' pins s4 σ H4 y z' u w' Q I4 r2 r4 q4))
theorem Ri {op op':CmpOp} {r r':R2} (ho:bw X (compareOp op) r) (ho':bw X (compareOp op') r') (ha:PE X a ta) (hb:PE X b tb) (hc:PE X c tc)
  (hm:lastMarks [op,op'] [b,c]=false):PT X (.Compare a [op,op'] [b,c] pos) (UI (Qm r r' ta tb tc)):=by
 intro pins s σ H Q I h;refine isTrue_chain (aG (ha pins s σ H _ I h) fun v s1 ⟨x,H1,I1,r1,q1⟩=>test_link (aG (hb pins s1 σ H1 _ I1 q1) fun u s2 ⟨y,H2,I2,r2,q2⟩ =>
  aG (ho pins s2 σ H2 x y v u _ I2 r1 r2 q2) fun d s3 ⟨z,H3,I3,r3,q3⟩=>?_)) hm
 replace q3:=Ul.mp q3
 obtain ⟨k,e,q3⟩:=q3;subst e
 cases r3
 refine wpAny_truthy_bool ?_
 cases k with
 | false =>
  exact ite_ff ⟨H3,I3,q3⟩
 | true =>
  refine ite_tt (test_last (aG (hc pins s3 σ H3 _ I3 q3) fun w' s4 ⟨z',H4,I4,r4,q4⟩=>aG (ho' pins s4 σ H4 y z' u w' _ I4 r2 r4 q4) fun d' s5 ⟨z2,H5,I5,r5,q5⟩=>?_))
  replace q5:=Ul.mp q5
  obtain ⟨k2,e2,q5⟩:=q5;subst e2
  cases r5
  exact wpAny_truthy_bool ⟨H5,I5,q5⟩
theorem wH:(sizeLine:Nat)<2^63:=by rw [sizeLine_eq];decide
theorem W1 {x:V} {us:List Value} (r:Yx [x] us):∃ u,us=[u]/\YF x u:=by
 cases r with
 | cons r1 r2=>cases r2;exact ⟨_,rfl,r1⟩
theorem wI {x y:V} {us:List Value} (r:Yx [x,y] us):∃ u w',us=[u,w']/\YF x u/\YF y w':=by
 cases r with
 | cons r1 r2 =>
  cases r2 with
  | cons r3 r4=>cases r4;exact ⟨_,_,rfl,r1,r3⟩
def wJ:List V->Hp->VK->Prop:=fun xs H Q=>k2 xs fun x y=>kI x fun i=>kI y fun j=>Q (.int (if j>i then j else i)) H
theorem Rj (hc:X.calm=true):X0 X (.builtin "max") (wJ):=by
 intro pins s σ H xs us Q I r h;obtain ⟨x,y,rfl,h1⟩:=rH h;obtain ⟨i,j,rfl,rfl,q⟩:=jq h1;obtain ⟨u,w',rfl,⟨t,rfl⟩,⟨t',rfl⟩⟩:=wI r;refine max_two_ints (I.ok.hd hc) fun h' tk k=>⟨_,H,I.kept k,?_,q⟩
 by_cases hj:j>i
 ·rw [if_pos hj,if_pos hj];exact ⟨_,rfl⟩
 ·rw [if_neg hj,if_neg hj];exact ⟨_,rfl⟩
def wK:List V->Hp->VK->Prop:=fun xs H Q=>k2 xs fun x y=>kI x fun i=>kI y fun j=>Q (.int (if j<i then j else i)) H
theorem Rk (hc:X.calm=true):X0 X (.builtin "min") (wK):=by
 intro pins s σ H xs us Q I r h;obtain ⟨x,y,rfl,h1⟩:=rH h;obtain ⟨i,j,rfl,rfl,q⟩:=jq h1;obtain ⟨u,w',rfl,⟨t,rfl⟩,⟨t',rfl⟩⟩:=wI r;refine min_two_ints (I.ok.hd hc) fun h' tk k=>⟨_,H,I.kept k,?_,q⟩
 by_cases hj:j<i
 ·rw [if_pos hj,if_pos hj];exact ⟨_,rfl⟩
 ·rw [if_neg hj,if_neg hj];exact ⟨_,rfl⟩
theorem Rm:X0 X (.type "int") (fun xs H Q=>(∃ i,xs=[.int i]/\Q (.int i) H)\/∃ k,xs=[.bl k]/\Q (.int (if k then 1 else 0)) H):=by
 intro pins s σ H xs us Q I r h;rcases h with ⟨i,rfl,q⟩ | ⟨k,rfl,q⟩
 ·obtain ⟨u,rfl,t,rfl⟩:=W1 r
  exact call_int_int ⟨.int i,H,I,⟨_,rfl⟩,q⟩
 ·obtain ⟨u,rfl,r1⟩:=W1 r
  cases r1
  exact call_int_bool ⟨.int (if k then 1 else 0),H,I.tok _,⟨_,rfl⟩,q⟩
end
structure gF (h:Heap) (x dx C:Addr) (mA:Str->Option Value):Prop where
 obj:h.get? x=some (W.instObj C dx)
 ns:h.Ns1 dx mA
 ne:dx≠x
theorem Rn {h:Heap} {dx:Addr} {mA:Str->Option Value} (n:h.Ns1 dx mA):∃ od,h.get? dx=some od/\∀ name,W.lookIn name od=some (mA name):=by
 obtain ⟨o,es,ep,ho,hd,hk,_,hm⟩:=n;refine ⟨o,ho,fun name=>?_⟩;have e:=hm name;unfold nsFind findBy at e;rw [<- Array.find?_toList] at e
 unfold W.lookIn;rw [hd];dsimp only
 split
 ·rename_i y q
  rw [q] at e
  exact congrArg some e
 ·rename_i q
  rw [q] at e
  have a:es.toList.any (·.refKey)=false:=by
   rw [List.any_eq_false];intro y hy;obtain ⟨z,t,hkey⟩:=hk y (Array.mem_toList_iff.mp hy);simp [DictEntry.refKey,hkey]
  have a':¬ es.toList.any (·.refKey)=true:=by rw [a];exact Bool.false_ne_true
  rw [if_neg a'];exact congrArg some e
theorem gF.look {h:Heap} {x dx C:Addr} {mA:Str->Option Value} (I:gF h x dx C mA):∃ od,W.InstAt h x (W.instObj C dx) C (some od)/\∀ name,W.lookIn name od=some (mA name) :=
 let ⟨od,ho,hl⟩:=Rn I.ns
 ⟨od,⟨I.obj,rfl,rfl,ho⟩,hl⟩
section
variable {prog:Program} {w:World} {A:Around} {E:Value->Shared->Prop} {s:Shared} {K:W.Frag} {x dx C f:Addr} {mA:Str->Option Value} {name:Str} {v:Value}
theorem Ro {expr:Bool} {Q:Value->Shared->Prop} (X:K.In s.heap) (I:gF s.heap x dx C mA) (hg:W.plainGet K C name=true) (hh:W.hasDictIn K C=true)
  (ha:W.findIn K (.ref C) name=some none) (hv:mA name=some v) (hv':W.handedIn v=true) (h:Q v { s with toks:=s.toks+1 }) :
  wpAny (model prog w) A (getAttr (.ref x) name expr) Q E s:=by
 obtain ⟨od,J,hl⟩:=I.look;exact W.get_value X J (W.plainGet_of hg).1 (W.findObj_own hh ha rfl (by rw [hl,hv])) hv' h
theorem Rp {pl:Sem Bool} {Q:Value×List Value->Shared->Prop} (X:K.In s.heap) (I:gF s.heap x dx C mA) (hg:W.plainGet K C name=true)
  (hf:W.findIn K (.ref C) name=some (some (.ref f))) (ht:W.isFn K (.ref f)=true) (hv:mA name=none) (h:Q (.ref f,[.ref x]) s) :
  wpAny (model prog w) A (getMethod (.ref x) name pl) Q E s:=by
 obtain ⟨od,J,hl⟩:=I.look;exact W.method_fn X J (W.plainGet_of hg).1 (W.plainGet_of hg).2 hf (beq_iff_eq.mp ht) (by show (W.lookIn name od).map (·.isSome)=some false;rw [hl,hv];rfl) h
theorem Rq {ns:List Str} {Q:Unit->Shared->Prop} (X:K.In s.heap) (I:gF s.heap x dx C mA)
  (hs:W.findIn K (.ref C) "__setattr__"=some (some (.builtin "object.__setattr__"))) (hp:W.plainOver K C=true) (ht:W.takerIn K C name=some none) (hh:W.hasDictIn K C=true)
  (hw:PySem.Within mA ns) (hsz:ns.length<=sizeLine)
  (h:∀ h',gF h' x dx C (fun y=>if y=name then some v else mA y)->Heap.SameBut dx s.heap h'->Q () { s with heap:=h',toks:=s.toks+2 }) :
  wpAny (model prog w) A (setAttr (.ref x) name v) Q E s:=by
 obtain ⟨od,J,hl⟩:=I.look;refine W.set_plain X J hs (W.osa_open (s:={ s with toks:=s.toks+1 }) (r:=none) X J hp ht fun b=>?_);obtain ⟨cd,hc,hd'⟩:=W.any_some hh;have hx:s.heap.get? x=some ⟨.ref C,some dx,.plain,#[]⟩:=I.obj;refine wpAny_bind (wpAny_pure (wpAny_bind (wpAny_bind (wpAny_loadPart hx (wpAny_bind (W.Looks.here (s:={ s with toks:=s.toks+1 }) (W.looks_clsIn X hc) ?_))))));rw [hd'];refine wpAny_pure (a:=some dx) (wpAny_bind (wpAny_pure (wpAny_bind ?_)));refine wpAny_nsSet1 (s:={ s with toks:=s.toks+1 }) I.ns fun h' hn2 hs2=>?_
 obtain ⟨oD,esD,epD,hoD,hdD,hcD⟩:=hn2.count (PySem.Within.cons name v hw);refine wpAny_bind (wpAny_lookBehind hoD (by rw [hdD];exact pastItsLine_dict (Nat.le_trans hcD (by rw [List.length_cons];omega))) ?_);exact wpAny_pure (h _ ⟨(hs2.2 _ (Ne.symm I.ne)).trans I.obj,hn2,I.ne⟩ hs2)
theorem Rr {R:Result->Shared->Prop} {vs:List Value} {kw:List (Str×Value)} (X:K.In s.heap) (hm:W.makesIn K C=true)
  (hi:W.findIn K (.ref C) "__init__"=some (some (.ref f))) (hf:W.typeIn K (.ref f)=some (.type "function"))
  (h:codeAny (model prog w) (A.under (.builtin "type.__call__" ⟨.ref C::vs,kw⟩)) (.call (.ref f) ⟨.ref (s.heap.objs.size+1)::vs,kw⟩) (W.InitBack (s.heap.objs.size+1) R)
   { s with heap:=(s.heap.push W.emptyDict).push (W.instObj C s.heap.objs.size) }) :
  codeAny (model prog w) A (.call (.ref C) ⟨vs,kw⟩) R s:=by
 obtain ⟨hh,g,d,t,os⟩:=s;exact W.make_core (W.makes_of X hm) (W.looks_findIn X hi) (fun self=>W.bind_fn X self hf) (.inl rfl) h
end
def YZ (f:Str) (v:V):List (Str×V)->List (Str×V)
 | []=>[(f,v)]
 | (g,x)::r=>if g=f then (g,v)::r else (g,x)::YZ f v r
theorem U5 (f g:Str) (v:V):∀ fs:List (Str×V),(YZ f v fs).lookup g=if g=f then some v else fs.lookup g
 | []=>by
  show List.lookup g [(f,v)]=_
  by_cases h:g=f
  ·have hb:(g==f)=true:=beq_iff_eq.mpr h
   simp only [List.lookup,hb,if_pos h]
  ·have hb:(g==f)=false:=beq_eq_false_iff_ne.mpr h
   simp only [List.lookup,hb,if_neg h]
 | (k,x)::r=>by
  have ih:=U5 f g v r;rw [show YZ f v ((k,x)::r)=(if k=f then (k,v)::r else (k,x)::YZ f v r) from rfl];by_cases hk:k=f
  ·rw [if_pos hk]
   by_cases h:g=k
   ·have hb:(g==k)=true:=beq_iff_eq.mpr h
    simp only [List.lookup,hb,if_pos (h.trans hk)]
   ·have hb:(g==k)=false:=beq_eq_false_iff_ne.mpr h
    simp only [List.lookup,hb,if_neg (fun e:g=f=>h (e.trans hk.symm))]
  ·rw [if_neg hk]
   by_cases h:g=k
   ·have hb:(g==k)=true:=beq_iff_eq.mpr h
    simp only [List.lookup,hb,if_neg (fun e:g=f=>hk (h.symm.trans e))]
   ·have hb:(g==k)=false:=beq_eq_false_iff_ne.mpr h
    simp only [List.lookup,hb];exact ih
theorem Up (f:Str) (v:V):∀ fs:List (Str×V),f∈(YZ f v fs).map (·.1)/\∀ g,g∈fs.map (·.1)->g∈(YZ f v fs).map (·.1)
 | []=>⟨by simp [YZ],fun g h=>by simp at h⟩
 | (k,x)::r=>by
  obtain ⟨i1,i2⟩:=Up f v r;rw [show YZ f v ((k,x)::r)=(if k=f then (k,v)::r else (k,x)::YZ f v r) from rfl];by_cases hk:k=f
  ·rw [if_pos hk]
   subst hk;exact ⟨by simp,fun g h=>by simpa using h⟩
  ·rw [if_neg hk]
   refine ⟨?_,fun g h=>?_⟩
   ·rw [List.map_cons]
    exact List.mem_cons_of_mem _ i1
   ·rw [List.map_cons] at h ⊢
    rcases List.mem_cons.mp h with e | e
    ·exact List.mem_cons.mpr (.inl e)
    ·exact List.mem_cons_of_mem _ (i2 g e)
theorem Xv (f:Str) (v:V):∀ fs:List (Str×V),(YZ f v fs).length<=fs.length+1
 | []=>by simp [YZ]
 | (k,x)::r=>by
  have ih:=Xv f v r;rw [show YZ f v ((k,x)::r)=(if k=f then (k,v)::r else (k,x)::YZ f v r) from rfl];by_cases hk:k=f
  ·rw [if_pos hk,List.length_cons,List.length_cons];omega
  ·rw [if_neg hk,List.length_cons,List.length_cons];omega
theorem VE.some_of {v:V} {o:Option Value} (r:VE (some v) o):∃ u,o=some u/\YF v u:=by
 cases o with
 | none=>exact (show False from r).elim
 | some u=>exact ⟨u,rfl,r⟩
theorem VE.none_of {o:Option Value} (r:VE none o):o=none:=by
 cases o with
 | none=>rfl
 | some u=>exact (show False from r).elim
theorem Rt {v:V} {u:Value} (r:YF v u):W.handedIn u=true:=by
 cases v with
 | non=>cases (show u=Value.none from r);rfl
 | bl b=>cases (show u=Value.bool b from r);rfl
 | int i=>obtain ⟨t,e⟩:=(show ∃ t,u=Value.int i t from r);cases e;rfl
 | str x=>obtain ⟨t,e⟩:=(show ∃ t,u=Value.str x t from r);cases e;rfl
 | eU b=>obtain ⟨t,e⟩:=(show ∃ t,u=Value.bytes b t from r);cases e;rfl
 | flt b=>obtain ⟨t,e⟩:=(show ∃ t,u=Value.float b t from r);cases e;rfl
 | ref a=>cases (show u=Value.ref a from r);rfl
 | ty n=>cases (show u=Value.type n from r);rfl
section
variable {P:Program} {w:World} {H H':Hp} {h h':Heap} {a C dx:Addr} {fs fs':List (Str×V)}
theorem UJ (hok:bL P w H h) (e:H a=some (.ins C dx fs)):∃ mA,gF h a dx C mA/\(∀ f,VE (fs.lookup f) (mA f))/\PySem.Within mA (fs.map (·.1))/\fs.length<=1000/\H dx=some (.own a):=by
 obtain ⟨d,z,ne,ob,mA,n,r,q⟩:=(show Y1 P w H h a (.ins C dx fs) from hok a _ e);exact ⟨mA,⟨ob,n,ne⟩,r,q,z,d⟩
end
structure Cls (K:W.Frag) (C:Addr):Prop where
 pg:W.plainGet K C Str.empty=true
 hd:W.hasDictIn K C=true
 po:W.plainOver K C=true
 sa:W.findIn K (.ref C) "__setattr__"=some (some (.builtin "object.__setattr__"))
theorem Cls.get {K:W.Frag} {C:Addr} (c:Cls K C) (f:Str):W.plainGet K C f=true:=c.pg
def Yc (K:W.Frag) (C:Addr) (f:Str):Prop:=W.findIn K (.ref C) f=some none
theorem Yc.taker {K:W.Frag} {C:Addr} {f:Str} (n:Yc K C f):W.takerIn K C f=some none:=by
 unfold W.takerIn;rw [show W.findIn K (.ref C) f=some none from n];rfl
structure Meth (K:W.Frag) (C:Addr) (m:Str) (f:Addr):Prop where
 at_:W.findIn K (.ref C) m=some (some (.ref f))
 fn:W.isFn K (.ref f)=true
 kp:W.keepIn K (.ref f)=true
section
variable {X:Cx} {pins:List (Addr×Obj)} {σ:St} {H:Hp} {s:Shared} {a C dx:Addr} {fs:List (Str×V)} {f:Str} {v:V} {A:Around} {E:Value->Shared->Prop}
theorem Ru {b:Bool} {Q:Value->Shared->Prop} (I:Inv X pins σ H s) (e:H a=some (.ins C dx fs)) (c:Cls X.K C) (n:Yc X.K C f) (l:fs.lookup f=some v)
  (h:∀ u s',Inv X pins σ H s'->YF v u->Q u s'):wpAny (model X.prog X.w) A (getAttr (.ref a) f b) Q E s:=by
 obtain ⟨mA,O,r,_,_,_⟩:=UJ I.hok e;obtain ⟨u,hu,ru⟩:=VE.some_of (v:=v) (o:=mA f) (by rw [<- l];exact r f);exact Ro I.bA O (c.get f) c.hd n hu (Rt ru) (h u _ (I.tok _) ru)
theorem Qo {m:Str} {g:Addr} {pl:Sem Bool} {Q:Value×List Value->Shared->Prop} (I:Inv X pins σ H s) (e:H a=some (.ins C dx fs)) (c:Cls X.K C) (k:Meth X.K C m g) (l:fs.lookup m=none)
  (h:Q (.ref g,[.ref a]) s):wpAny (model X.prog X.w) A (getMethod (.ref a) m pl) Q E s:=by
 obtain ⟨mA,O,r,_,_,_⟩:=UJ I.hok e;have hn:mA m=none:=VE.none_of (by rw [<- l];exact r m);exact Rp I.bA O (c.get m) k.at_ k.fn hn h
theorem Rv {y:V} {u:Value} {Q:Unit->Shared->Prop} (I:Inv X pins σ H s) (e:H a=some (.ins C dx fs)) (c:Cls X.K C) (n:Yc X.K C f) (hl:fs.length<1000) (ry:YF y u)
  (h:∀ s',Inv X pins σ (upd H a (.ins C dx (YZ f y fs))) s'->Q () s'):wpAny (model X.prog X.w) A (setAttr (.ref a) f u) Q E s:=by
 obtain ⟨mA,O,r,wi,_,ho⟩:=UJ I.hok e;have hz:(fs.map (·.1)).length<=sizeLine:=by rw [List.length_map,sizeLine_eq];omega
 refine Rq I.bA O c.sa c.po n.taker c.hd wi hz fun h' O' sb=>h _ ?_
 have hd:∃ o,h'.get? dx=some o:=let ⟨o,_,_,e',_⟩:=O'.ns;⟨o,e'⟩
 refine I.write (x:=a) (e:=dx) (by rw [e];exact True.intro) (.inr ho) (fun b q hb z=>(sb.2 b hb).trans z) hd ?_;refine ⟨by rw [Yg O.ne];exact ho,?_,O.ne,O'.obj,_,O'.ns,fun g=>?_,fun g hg=>?_⟩
 ·have:=Xv f y fs;omega
 ·show VE ((YZ f y fs).lookup g) (if g=f then some u else mA g)
  rw [U5];by_cases q:g=f
  ·rw [if_pos q,if_pos q];exact ry
  ·rw [if_neg q,if_neg q];exact r g
 ·by_cases q:g=f
  ·rw [q];exact (Up f y fs).1
  ·refine (Up f y fs).2 g (wi g fun z=>hg ?_)
   show (if g=f then some u else mA g)=none
   rw [if_neg q];exact z
theorem Inv.made (I:Inv X pins σ H s):Inv X pins σ (upd (upd H s.heap.objs.size (.own (s.heap.objs.size+1))) (s.heap.objs.size+1) (.ins C s.heap.objs.size []))
  { s with heap:=(s.heap.push W.emptyDict).push (W.instObj C s.heap.objs.size) }:=by
 have e1:(s.heap.push W.emptyDict).get? s.heap.objs.size=some W.emptyDict:=Heap.get?_push_size s.heap rfl;have e2:((s.heap.push W.emptyDict).push (W.instObj C s.heap.objs.size)).get? (s.heap.objs.size+1)=some (W.instObj C s.heap.objs.size):=by
  have:=Heap.get?_push_size (s.heap.push W.emptyDict) (o:=W.instObj C s.heap.objs.size) rfl
  rwa [Heap.size_push] at this
 have e3:(s.heap.push W.emptyDict).Ns s.heap.objs.size (fun _=>none):=⟨W.emptyDict,#[],_,e1,rfl,(fun e he=>absurd he (by simp)),fun _=>rfl⟩;have I1:=I.laid (a:=s.heap.objs.size) (o := .own (s.heap.objs.size+1)) (h':=s.heap.push W.emptyDict) (t':=s.toks) (fun b u q=>Heap.get?_push_of_some _ q) (Nat.le_refl _) ⟨_,e1⟩;refine I1.laid (a:=s.heap.objs.size+1) (o := .ins C s.heap.objs.size []) (t':=s.toks) (fun b u q=>Heap.get?_push_of_some _ q) (Nat.le_of_eq (Heap.size_push _ _)) ?_;have ne:s.heap.objs.size≠s.heap.objs.size+1:=Nat.ne_of_lt (Nat.lt_succ_self _);refine ⟨by rw [Yg ne,Yd],Nat.zero_le _,ne,e2,fun _=>none,(Heap.Ns1.of_empty e3).at fun o q=>Heap.get?_push_of_some _ q,fun _=>True.intro,fun y hy=>absurd rfl hy⟩
theorem Rw {prog:Program} {w:World} {env:Env} {e:Expr} {f:Str} {pos:Pos} {s:Shared} {Q:Value->Shared->Prop} (hb:attributeBase e f env (eval e env)=eval e env)
  (h:wpAny (model prog w) A (eval e env) (fun o s₁=>wpAny (model prog w) A (getAttr o f true) Q E s₁) E s):wpAny (model prog w) A (eval (.Attribute e f pos) env) Q E s :=
 Attribute_any_ h (by rw [arm_eval_Attribute,hb])
end
inductive NK (K:W.Frag) (H:Hp) (a:Addr) (f:Str) (Q:V->Prop):Prop
 | mk (C dx:Addr) (fs:List (Str×V)) (h:H a=some (.ins C dx fs)) (c:Cls K C) (n:Yc K C f) (v:V) (l:fs.lookup f=some v) (q:Q v)
inductive NP (K:W.Frag) (H:Hp) (a:Addr) (f:Str) (Q:Addr->Addr->List (Str×V)->Prop):Prop
 | mk (C dx:Addr) (fs:List (Str×V)) (h:H a=some (.ins C dx fs)) (c:Cls K C) (n:Yc K C f) (l:fs.length<1000) (q:Q C dx fs)
def rR (K:W.Frag) (ta:TE) (f:Str):TE:=fun σ H Q=>ta σ H fun x H1=>kR x fun a=>NK K H1 a f fun v=>Q v H1
def rT (K:W.Frag) (ta tv:TE) (f:Str):TS:=fun D σ H=>tv σ H fun y H1=>ta σ H1 fun x H2=>kR x fun a=>NP K H2 a f fun C dx fs=>D.nx σ (upd H2 a (.ins C dx (YZ f y fs)))
section
variable {X:Cx} {o e value:Expr} {f:Str} {pos pos' tpos:Pos} {ta tv:TE}
theorem YB (he:PE X e ta) (hb:attributeBase e f X.env (eval e X.env)=eval e X.env):PE X (.Attribute e f pos) (rR X.K ta f):=by
 intro pins s σ H Q I h;refine Rw hb (aG (he pins s σ H _ I h) fun u s1 ⟨x,H1,I1,rx,q⟩=>?_)
 replace q:=W9.mp q
 obtain ⟨a,ex,C,dx,fs,ea,c,n,v,l,q⟩:=q;subst ex;obtain rfl:u=Value.ref a:=rx;exact Ru I1 ea c n l fun u' s2 I2 ru=>⟨v,H1,I2,ru,q⟩
theorem Xm (ha:PE X o ta) (hv:PE X value tv) (hs:swapsWith value (some (.Attribute o f pos')) pos.line X.env=pure false):PS X (.Assign [.Attribute o f pos'] value pos) (rT X.K ta tv f):=by
 intro pins s σ H D I h;refine plainObj_wpAny_Assign_Attribute (aG (hv pins s σ H _ I h) fun u s1 ⟨y,H1,I1,ry,q⟩=>aG (ha pins s1 σ H1 _ I1 q) fun ov s2 ⟨x,H2,I2,rx,q2⟩=>?_) hs
 replace q2:=W9.mp q2
 obtain ⟨a,ex,C,dx,fs,ea,c,n,l,q2⟩:=q2;subst ex;obtain rfl:ov=Value.ref a:=rx;exact Rv I2 ea c n l ry fun s3 I3=>⟨σ,_,I3,q2⟩
end
section
variable {X:Cx} {pins:List (Addr×Obj)} {σ:St} {H:Hp} {s:Shared} {A:Around} {E:Value->Shared->Prop} {Q:Value->Shared->Prop} {c:Value} {b:Bool}
inductive cN (K:W.Frag) (H:Hp):V->Value->Prop where
 | non:cN K H .non (.type "NoneType")
 | bl (x:Bool):cN K H (.bl x) (.type "bool")
 | int (i:Int):cN K H (.int i) (.type "int")
 | str (x:Str):cN K H (.str x) (.type "str")
 | flt (x:UInt64):cN K H (.flt x) (.type "float")
 | lst {a:Addr} {xs:List V} (e:H a=some (.lst xs)):cN K H (.ref a) (.type "list")
 | cQ {a:Addr} {o:Obj} {xs:List V} (e:H a=some (.cQ o (.lst xs))):cN K H (.ref a) (.type "list")
 | tup {a:Addr} {xs:List V} (e:H a=some (.tup xs)):cN K H (.ref a) (.type "tuple")
 | dK {a:Addr} {kvs:List (Key×V)} (e:H a=some (.dK kvs)):cN K H (.ref a) (.type "dict")
 | dT {a:Addr} {kvs:List (List Key×V)} (e:H a=some (.dT kvs)):cN K H (.ref a) (.type "dict")
 | ins {a C dx:Addr} {fs:List (Str×V)} (e:H a=some (.ins C dx fs)) (cl:Cls K C) (ha:W.findIn K (.ref C) "__class__"=some (some (.builtin "object.__class__")))
   (hn:W.specialIn K (.builtin "object.__class__") "__get__"=some (some (.builtin "getset_descriptor.__get__"))) (htk:W.takesIn K (.builtin "object.__class__")=some true)
   (hm:W.mroIn K C (.type "object")=some true):cN K H (.ref a) (.ref C)
theorem Rx {x:V} {u t:Value} (I:Inv X pins σ H s) (rx:YF x u) (ty:cN X.K H x t) (e:W.kitOne X.K t c=some b) (h:∀ tk,Q (.bool b) { s with toks:=tk }) :
  wpAny (model X.prog X.w) A (call (.builtin "isinstance") [u,c]) Q E s:=by
 cases ty with
 | non=>cases (show u=Value.none from rx);exact W.kia_one W.kitx_none I.bA True.intro e (fun z=>nomatch z) h
 | bl y=>cases (show u=Value.bool y from rx);exact W.kia_one W.kitx_bool I.bA True.intro e (fun z=>nomatch z) h
 | int i=>obtain ⟨t,q⟩:=(show ∃ t,u=Value.int i t from rx);cases q;exact W.kia_one W.kitx_int I.bA True.intro e (fun z=>nomatch z) h
 | str y=>obtain ⟨t,q⟩:=(show ∃ t,u=Value.str y t from rx);cases q;exact W.kia_one W.kitx_str I.bA True.intro e (fun z=>nomatch z) h
 | flt y=>obtain ⟨t,q⟩:=(show ∃ t,u=Value.float y t from rx);cases q;exact W.kia_one W.kitx_float I.bA True.intro e (fun z=>nomatch z) h
 | @lst a xs ea =>
  cases (show u=Value.ref a from rx)
  obtain ⟨_,_,n,_,h1⟩:=(show Y1 X.prog X.w H s.heap a (.lst xs) from I.hok a _ ea);exact W.kia_one W.kitx_list I.bA ⟨_,h1,rfl⟩ e (fun z=>nomatch z) h
 | @cQ a ob xs ea =>
  cases (show u=Value.ref a from rx)
  obtain ⟨_,_,_,n,_,h1⟩:=(show Y1 X.prog X.w H s.heap a (.cQ ob (.lst xs)) from I.hok a _ ea);exact W.kia_one W.kitx_list I.bA ⟨_,h1,rfl⟩ e (fun z=>nomatch z) h
 | @tup a xs ea =>
  cases (show u=Value.ref a from rx)
  obtain ⟨_,_,_,p⟩:=(show Y1 X.prog X.w H s.heap a (.tup xs) from I.hok a _ ea);obtain ⟨o,h1,h2,_⟩:=p;exact W.kia_one W.kitx_tuple I.bA ⟨o,h1,h2⟩ e (fun z=>nomatch z) h
 | @dK a kvs ea =>
  cases (show u=Value.ref a from rx)
  obtain ⟨_,_,vs,_,p⟩:=(show Y1 X.prog X.w H s.heap a (.dK kvs) from I.hok a _ ea);obtain ⟨o,es,ep,h1,h2,_⟩:=p;exact W.kia_one W.kitx_dict I.bA ⟨o,h1,h2.1⟩ e (fun z=>nomatch z) h
 | @dT a kvs ea =>
  cases (show u=Value.ref a from rx)
  obtain ⟨_,_,xs,_,o,es,ep,h1,h2,_⟩:=(show Y1 X.prog X.w H s.heap a (.dT kvs) from I.hok a _ ea);exact W.kia_one W.kitx_dict I.bA ⟨o,h1,h2.1⟩ e (fun z=>nomatch z) h
 | @ins a C dx fs ea cl ha hn htk hm =>
  cases (show u=Value.ref a from rx)
  obtain ⟨mA,O,_⟩:=UJ I.hok ea;obtain ⟨od,J,_⟩:=O.look;exact W.kia_one (W.kitx_own (cl.get _) cl.hd ha hn htk hm) I.bA J e (fun z=>nomatch z) h
end
structure aQ (k:Nat) (A:Around):Prop where
 hd:A.handled=none
 dp:A.depth+3*k+5<recursionLimit
 un:A.units+16*k+200<cLine
 gd:A.guards=some []
theorem aQ.mono {j k:Nat} {A:Around} (r:aQ k A) (h:j<=k):aQ j A:=⟨r.hd,by have:=r.dp;omega,by have:=r.un;omega,r.gd⟩
theorem aQ.deeper {k:Nat} {A:Around} (r:aQ (k+1) A) (env:Env):aQ k (A.deeper env) :=
 ⟨r.hd,by have:=r.dp;show A.depth+1+3*k+5<_;omega,by have:=r.un;show A.units+3+16*k+200<_;omega,r.gd⟩
theorem Ry {A:Around} {C:Addr} {us:List Value} {kw:List (Str×Value)}:(A.under (.builtin "type.__call__" ⟨.ref C::us,kw⟩)).depth=A.depth+1:=by
 first | rfl | simp [Around.under,Code.weight,Code.isCreation,Code.isGuard,Code.isCaller,Code.frames,Code.isFrame,guardIds]
theorem Rz {A:Around} {C:Addr} {us:List Value} {kw:List (Str×Value)}:(A.under (.builtin "type.__call__" ⟨.ref C::us,kw⟩)).units=A.units+1:=by
 first | rfl | simp [Around.under,Code.cUnits,Code.frames,Code.isFrame]
theorem aQ.make {k:Nat} {A:Around} (r:aQ (k+1) A) (C:Addr) (us:List Value) (kw:List (Str×Value)):aQ k (A.under (.builtin "type.__call__" ⟨.ref C::us,kw⟩)) :=
 ⟨r.hd,by have:=r.dp;rw [Ry];omega,by have:=r.un;rw [Rz];omega,by first | exact r.gd | simpa [Around.under,Code.isGuard,Code.isFrame,guardIds] using r.gd⟩
theorem aQ.depth {k:Nat} {A:Around} (r:aQ k A):A.depth<recursionLimit:=by have:=r.dp;omega
theorem aQ.units {k:Nat} {A:Around} (r:aQ k A):A.units+64<cLine:=by have:=r.un;omega
def XF:TA:=fun _ H Q=>Q [] H
def Xr (ta:TE) (tr:TA):TA:=fun σ H Q=>ta σ H fun x H1=>tr σ H1 fun xs H2=>Q (x::xs) H2
section
variable {X:Cx} {e:Expr} {es:List Expr} {te:TE} {t:TA} {pos:Pos}
theorem Yb:PA X [] XF:=fun _ _ _ _ H Q I h=>Calls.spliced_nil ⟨[],H,I,.nil,h⟩
theorem Ya (ha:PE X e te) (hr:PA X es t) (hs:starEach (e::es) X.env=(false,eval e X.env)::starEach es X.env):PA X (e::es) (Xr te t):=by
 intro pos pins s σ H Q I h;rw [hs]
 show wpAny _ _ (spliced ((false,eval e X.env)::backTo pos (starEach es X.env))) _ _ s
 refine Calls.spliced_cons (aG (ha pins s σ H _ I h) fun u s1 ⟨x,H1,I1,r1,q1⟩=>?_);exact aG (hr pos pins s1 σ H1 _ I1 q1) fun us s2 ⟨xs,H2,I2,r2,q2⟩=>⟨x::xs,H2,I2,.cons r1 r2,q2⟩
def V8 (t:TA):TE:=fun σ H Q=>t σ H fun xs H1=>xs.length<=sizeLine/\∀ p,H1 p=none->Q (.ref p) (upd H1 p (.tup xs))
def ud (t:TA):TE:=fun σ H Q=>t σ H fun xs H1=>xs.length<=sizeLine/\∀ p,H1 p=none->Q (.ref p) (upd H1 p (.lst xs))
theorem Yu {x1} (h:PA X es t):PE X (.Tuple es x1 pos) (V8 t):=by
 intro pins s σ H Q I hq;refine wpAny_Tuple_spliced (aG (h pos pins s σ H _ I hq) fun us s1 ⟨xs,H1,I1,r,z,q⟩=>⟨by rw [<- r.length];exact z,?_⟩);have hf:H1 s1.heap.objs.size=none:=I1.hok.fresh (Nat.le_refl _);refine ⟨.ref s1.heap.objs.size,upd H1 s1.heap.objs.size (.tup xs),I1.laid (t':=s1.toks) (fun b u e=>Heap.get?_push_of_some _ e) (Nat.le_refl _) ?_,rfl,q _ hf⟩;exact ⟨z,us,r,⟨_,Heap.get?_push_size _ rfl,rfl,_,rfl⟩⟩
theorem Y5 (h:PA X es t):PE X (.List es pos) (ud t):=by
 intro pins s σ H Q I hq;refine wpAny_List_spliced (aG (h pos pins s σ H _ I hq) fun us s1 ⟨xs,H1,I1,r,z,q⟩=>⟨by rw [<- r.length];exact z,?_⟩);have hf:H1 s1.heap.objs.size=none:=I1.hok.fresh (Nat.le_refl _);refine ⟨.ref s1.heap.objs.size,upd H1 s1.heap.objs.size (.lst xs),I1.laid (t':=s1.toks) (fun b u e=>Heap.get?_push_of_some _ e) (Nat.le_refl _) ?_,rfl,q _ hf⟩;exact ⟨z,us,0,r,Heap.get?_push_size _ rfl⟩
end
abbrev Sp:=List V->Hp->VK->XK->Prop
abbrev dz:=List Env->Hp->Shared->XK->Value->Shared->Prop
structure gG (P:Program) (w:World) (K:W.Frag) (mg:Str->Option Value) (base:Heap) (A:Around) (outer:List Env) (s:Shared) (H:Hp):Prop where
 frames:A.frames=some outer
 mod:Mod K mg base
 bs:∀ b o,base.get? b=some o->s.heap.get? b=some o/\H b=none
 gO:base.objs.size<=s.heap.objs.size
 cU:s.heap.FunFrames base outer
 ji:∀ b∈frs outer,H b=none
 hok:bL P w H s.heap
 bare:AllBare s.gens
def CE (outer:List Env) (P:Program) (w:World) (H:Hp) (s:Shared) (Q:VK) (u:Value) (s':Shared):Prop :=
 ∃ v H',s'.os=s.os/\AllBare s'.gens/\Un (frs outer) [] H H' s.heap s'.heap/\bL P w H' s'.heap/\YF v u/\Q v H'
def CR (CX:dz) (outer:List Env) (P:Program) (w:World) (H:Hp) (s:Shared) (Q:VK) (E:XK) (r:Result) (s':Shared):Prop :=
 match r with
 | .ok (.ret u)=>CE outer P w H s Q u s'
 | .ok _=>False
 | .error e=>CX outer H s E e s'
structure bM (P:Program) (w:World) (K:W.Frag) (mg:Str->Option Value) (base:Heap) (CX:dz) (k:Nat) (f:Addr) (fd:FuncData) (ps:List Str) (sp:Sp):Prop where
 len:∀ vs H Q E,sp vs H Q E->vs.length=ps.length
 run:∀ (A:Around) (outer:List Env) (s:Shared) (H:Hp) (args:Args) (us:List Value) (vs:List V) (Q:VK) (E:XK),aQ k A->gG P w K mg base A outer s H->BindsTo s fd args (ps.zip us)->Yx vs us->sp vs H Q E ->
  codeAny (model P w) A (.call (.ref f) args) (CR CX outer P w H s Q E) s
theorem bM.mono {P:Program} {w:World} {K:PySem.W.Frag} {mg:Str->Option Value} {base:Heap} {CX:dz} {j k:Nat} {f:Addr} {fd:FuncData} {ps:List Str} {sp:Sp} (F:bM P w K mg base CX j f fd ps sp) (h:j<=k) :
  bM P w K mg base CX k f fd ps sp:=⟨F.len,fun A outer s H args us vs Q E hr=>F.run A outer s H args us vs Q E (hr.mono h)⟩
theorem gG.make {P:Program} {w:World} {K:W.Frag} {mg:Str->Option Value} {base:Heap} {A:Around} {outer:List Env} {s:Shared} {H:Hp} (e:gG P w K mg base A outer s H) (C:Addr) (us:List Value) (kw:List (Str×Value)) :
  gG P w K mg base (A.under (.builtin "type.__call__" ⟨.ref C::us,kw⟩)) outer s H:=⟨by first | exact e.frames | (simpa [Around.under,Code.envs,Code.isFrame,pushEnvs] using e.frames),e.mod,e.bs,e.gO,e.cU,e.ji,e.hok,e.bare⟩
section
variable {X:Cx} {pins:List (Addr×Obj)} {σ:St} {H:Hp} {s s':Shared}
theorem Inv.env0 (I:Inv X pins σ H s):gG X.prog X.w X.K X.mg X.base X.A X.stack s H :=
 ⟨I.ok.frames,I.ok.mod,I.bs,Nat.le_trans I.ok.gO I.sz,I.stack,I.mz,I.hok,I.bare⟩
theorem Inv.after {Q:VK} {u:Value} (I:Inv X pins σ H s) (h:CE X.stack X.prog X.w H s Q u s'):EP X pins σ Q u s':=by
 obtain ⟨v,H',os,bare,un,hok,r,q⟩:=h;obtain ⟨hh,g,d,t,os'⟩:=s';obtain rfl:os'=s.os:=os;exact ⟨v,H',I.call (h':=hh) (g':=g) (d':=d) (t':=t) (ch:=[]) un hok bare (fun b z=>absurd z (by simp)),r,q⟩
end
def XS (sp:Sp) (aU:List V) (E:XK) (t:TA):TE:=fun σ H Q=>t σ H fun vs H1=>sp (vs++aU) H1 Q E
inductive RD (H:Hp) (a C:Addr) (m:Str) (Q:Prop):Prop
 | mk (dx:Addr) (fs:List (Str×V)) (h:H a=some (.ins C dx fs)) (l:fs.lookup m=none) (q:Q)
def Qp (C:Addr) (m:Str) (sp:Sp) (aU:List V) (E:XK) (ta:TE) (t:TA):TE:=fun σ H Q=>ta σ H fun x H1=>kR x fun a=>RD H1 a C m (t σ H1 fun vs H2=>sp (.ref a::(vs++aU)) H2 Q E)
def UK (C:Addr) (sp:Sp) (aU:List V) (E:XK) (t:TA):TE:=fun σ H Q=>t σ H fun vs H1=>∀ x dx,H1 x=none->H1 dx=none->dx≠x ->
 sp (.ref x::(vs++aU)) (upd (upd H1 dx (.own x)) x (.ins C dx [])) (fun v H2=>v = .non/\Q (.ref x) H2) E
def Xi (K:W.Frag) (fd:FuncData) (ps:List Str) (ds:List Value):Prop :=
 ∀ (s:Shared) (us:List Value),K.In s.heap->(us++ds).length=ps.length->BindsTo s fd ⟨us,[]⟩ (ps.zip (us++ds))
theorem Xi.all {K:W.Frag} {fd:FuncData} {ps:List Str} (h:∀ us:List Value,us.length=ps.length->bindArgs fd ⟨us,[]⟩=pure (ps.zip us)):Xi K fd ps []:=fun s us _ hl=>by
 rw [List.append_nil] at hl ⊢
 exact .of_eq (h us hl)
def WP (CX:dz) (X:Cx) (E:XK):Prop:=∀ (pins:List (Addr×Obj)) (σ:St) (H:Hp) (s:Shared) (e:Value) (s':Shared),Inv X pins σ H s->CX X.stack H s E e s'->X.xe e s'
section
variable {X:Cx} {CX:dz} {k:Nat} {f C:Addr} {fd:FuncData} {ps:List Str} {sp:Sp} {aU:List V} {ds:List Value} {E:XK} {x m:Str} {p pos apos:Pos} {e o:Expr} {es:List Expr} {ta:TE} {t:TA}
theorem Uq {pins:List (Addr×Obj)} {σ:St} {H:Hp} {s:Shared} {Q:VK} {us:List Value} {vs:List V} (F:bM X.prog X.w X.K X.mg X.base CX k f fd ps sp) (hr:aQ k X.A) (hb:Xi X.K fd ps ds) (hd:Yx aU ds) (hx:WP CX X E)
  (I:Inv X pins σ H s) (r:Yx vs us) (h:sp (vs++aU) H Q E):wpAny (model X.prog X.w) X.A (call (.ref f) us) (EP X pins σ Q) X.xe s:=by
 have r2:Yx (vs++aU) (us++ds):=r.append hd;have hl:(us++ds).length=ps.length:=by rw [<- r2.length];exact F.len _ _ _ _ h
 refine wpAny_call (codeAny_mono (F.run X.A X.stack s H ⟨us,[]⟩ (us++ds) (vs++aU) Q E hr I.env0 (hb s us I.bA hl) r2 h) fun r s' hq=>?_)
 cases r with
 | error e=>exact hx pins σ H s e s' I hq
 | ok fl =>
  cases fl with
  | ret u=>exact I.after hq
  | next=>exact False.elim hq
  | brk=>exact False.elim hq
  | cont=>exact False.elim hq
theorem FZ (F:bM X.prog X.w X.K X.mg X.base CX k f fd ps sp) (hr:aQ k X.A) (hg:Gl X x) (hm:X.mg x=some (.ref f)) (hk:PySem.W.keepIn X.K (.ref f)=true) (hb:Xi X.K fd ps ds) (hd:Yx aU ds) (hx:WP CX X E)
  (ha:PA X (e::es) t) (hdb:(x==("__debug__":Str))=false:=by decide) (he:starEach (e::es) X.env=(false,eval e X.env)::starEach es X.env:=by rfl) (hpl:(backTo pos (starEach es X.env)).any (·.1)=false:=by rfl) :
  PE X (.Call (.Name x p) (e::es) [] pos) (XS sp aU E t):=by
 intro pins s σ H Q I h;refine wpAny_Call_Name_kw (VH I hg hm ?_ hdb);refine PySem.W.callWith_K (h₀:=X.base) I.ok.mod.jg hk (aG (ha pos pins s σ H _ I h) fun us s1 ⟨vs,H1,I1,r,q⟩=>⟨I1.bA,?_⟩) he hpl;exact Uq F hr hb hd hx I1 r q
theorem RG (F:bM X.prog X.w X.K X.mg X.base CX k f fd ps sp) (hr:aQ k X.A) (hg:Gl X x) (hm:X.mg x=some (.ref f)) (hk:PySem.W.keepIn X.K (.ref f)=true) (hb:Xi X.K fd ps ds) (hd:Yx aU ds) (hx:WP CX X E)
  (hdb:(x==("__debug__":Str))=false:=by decide):PE X (.Call (.Name x p) [] [] pos) (XS sp aU E XF):=by
 intro pins s σ H Q I h;refine wpAny_Call_Name_kw (VH I hg hm ?_ hdb);exact PySem.W.callWith_K0 I.bA hk (Uq (us:=[]) F hr hb hd hx I .nil h)
theorem RJ {pl:Sem Bool} (he:PE X o ta) (c:Cls X.K C) (hm:Meth X.K C m f) (F:bM X.prog X.w X.K X.mg X.base CX k f fd ps sp) (hr:aQ k X.A) (hb:Xi X.K fd ps ds) (hd:Yx aU ds) (hx:WP CX X E) (ha:PA X (e::es) t)
  (hst:starEach (e::es) X.env=(false,eval e X.env)::starEach es X.env:=by rfl) (hpl:(backTo pos (starEach es X.env)).any (·.1)=false:=by rfl)
  (ht:eval (.Call (.Attribute o m apos) (e::es) [] pos) X.env=(do
   let ov <- eval o X.env
   standAt apos.atName
   let (f,first) <- holding [ov] (getMethod ov m pl)
   callWith pos f first (backTo pos (starEach (e::es) X.env)) (backToKw pos (keywordEach [] X.env))):=by rfl) :
  PE X (.Call (.Attribute o m apos) (e::es) [] pos) (Qp C m sp aU E ta t):=by
 intro pins s σ H Q I h;refine PySem.W.methodCall_KW (pl:=pl) (aG (he pins s σ H _ I h) fun u s1 ⟨x,H1,I1,rx,q⟩=>?_) ht
 replace q:=W9.mp q
 obtain ⟨a,ex,dx,fs,ea,l,q⟩:=q;subst ex;obtain rfl:u=Value.ref a:=rx;refine Qo I1 ea c hm l ?_;refine PySem.W.callWith_K (first:=[.ref a]) (h₀:=X.base) I.ok.mod.jg hm.kp (aG (ha pos pins s1 σ H1 _ I1 q) fun us s2 ⟨vs,H2,I2,r,q2⟩=>⟨I2.bA,?_⟩) hst hpl;exact Uq (us := .ref a::us) (vs := .ref a::vs) F hr hb hd hx I2 (.cons rfl r) q2
structure Mk (K:W.Frag) (C f:Addr):Prop where
 makes:W.makesIn K C=true
 init:W.findIn K (.ref C) "__init__"=some (some (.ref f))
 fn:W.isFn K (.ref f)=true
 kp:W.keepIn K (.ref C)=true
theorem Ga {pins:List (Addr×Obj)} {σ:St} {H:Hp} {s:Shared} {Q:VK} {us:List Value} {vs:List V} (M:Mk X.K C f) (F:bM X.prog X.w X.K X.mg X.base CX k f fd ps sp) (hr:aQ (k+1) X.A) (hb:Xi X.K fd ps ds) (hd:Yx aU ds)
  (hx:WP CX X E) (I:Inv X pins σ H s) (r:Yx vs us)
  (h:∀ x dx,H x=none->H dx=none->dx≠x->sp (.ref x::(vs++aU)) (upd (upd H dx (.own x)) x (.ins C dx [])) (fun v H2=>v = .non/\Q (.ref x) H2) E) :
  wpAny (model X.prog X.w) X.A (call (.ref C) us) (EP X pins σ Q) X.xe s:=by
 have hq:=h (s.heap.objs.size+1) s.heap.objs.size (I.hok.fresh (Nat.le_succ _)) (I.hok.fresh (Nat.le_refl _)) (Nat.ne_of_lt (Nat.lt_succ_self _));have I2:=Inv.made (C:=C) I;have r2:Yx (V.ref (s.heap.objs.size+1)::(vs++aU)) (Value.ref (s.heap.objs.size+1)::(us++ds)) := .cons rfl (r.append hd);have hl:(Value.ref (s.heap.objs.size+1)::us++ds).length=ps.length:=by
  have e:=r2.length;rw [F.len _ _ _ _ hq] at e
  exact e.symm
 refine wpAny_call (Rr (f:=f) I.bA M.makes M.init (beq_iff_eq.mp M.fn) (codeAny_mono (F.run _ X.stack _ _ ⟨Value.ref (s.heap.objs.size+1)::us,[]⟩ (Value.ref (s.heap.objs.size+1)::(us++ds)) _ _ E (hr.make C us [])
  (I2.env0.make C us []) (hb _ (Value.ref (s.heap.objs.size+1)::us) I2.bA hl) r2 hq) fun r s' hq'=>?_))
 cases r with
 | error e=>exact hx pins σ _ _ e s' I2 hq'
 | ok fl =>
  cases fl with
  | ret u =>
   obtain ⟨v,H',I3,rv,ev,q3⟩:=I2.after hq';subst ev;exact ⟨rv,⟨V.ref (s.heap.objs.size+1),H',I3,rfl,q3⟩⟩
  | next=>exact False.elim hq'
  | brk=>exact False.elim hq'
  | cont=>exact False.elim hq'
theorem RL (M:Mk X.K C f) (F:bM X.prog X.w X.K X.mg X.base CX k f fd ps sp) (hr:aQ (k+1) X.A) (hg:Gl X x) (hm:X.mg x=some (.ref C)) (hb:Xi X.K fd ps ds) (hd:Yx aU ds) (hx:WP CX X E)
  (ha:PA X (e::es) t) (hdb:(x==("__debug__":Str))=false:=by decide) (he:starEach (e::es) X.env=(false,eval e X.env)::starEach es X.env:=by rfl) (hpl:(backTo pos (starEach es X.env)).any (·.1)=false:=by rfl) :
  PE X (.Call (.Name x p) (e::es) [] pos) (UK C sp aU E t):=by
 intro pins s σ H Q I h;refine wpAny_Call_Name_kw (VH I hg hm ?_ hdb);refine PySem.W.callWith_K (h₀:=X.base) I.ok.mod.jg M.kp (aG (ha pos pins s σ H _ I h) fun us s1 ⟨vs,H1,I1,r,q⟩=>⟨I1.bA,?_⟩) he hpl;exact Ga M F hr hb hd hx I1 r q
theorem RM (M:Mk X.K C f) (F:bM X.prog X.w X.K X.mg X.base CX k f fd ps sp) (hr:aQ (k+1) X.A) (hg:Gl X x) (hm:X.mg x=some (.ref C)) (hb:Xi X.K fd ps ds) (hd:Yx aU ds) (hx:WP CX X E)
  (hdb:(x==("__debug__":Str))=false:=by decide):PE X (.Call (.Name x p) [] [] pos) (UK C sp aU E XF):=by
 intro pins s σ H Q I h;refine wpAny_Call_Name_kw (VH I hg hm ?_ hdb);exact PySem.W.callWith_K0 I.bA M.kp (Ga (us:=[]) M F hr hb hd hx I .nil h)
end
structure ak (N P:List Str) (sc:Scope):Prop where
 kind:sc.kind = .function
 co:sc.isCoroutine=false
 gen:sc.isGenerator=false
 nd:N.Nodup
 pre:N.take P.length=P
 par:∀ x∈P,sc.names.lookup x=some .local\/sc.names.lookup x=some .cell
 wL:∀ y∈sc.names,y.2 ≠ .free
theorem Gb {kindOf:Str->Option NameKind} {x:Str}:∀ {binds:List (Str×Value)} {m:Str->Option Value},(∀ v,(x,v)∉binds)->bindL kindOf binds m x=m x
 | [],_,_=>rfl
 | (n,v)::r,m,h=>by
  unfold bindL;rw [Gb fun w hw=>h w (List.mem_cons_of_mem _ hw)]
  split
  ·have:x≠n:=by rintro rfl;exact h v List.mem_cons_self
   simp [this]
  ·rfl
theorem Gd {kindOf:Str->Option NameKind} {x:Str}:∀ {binds:List (Str×Value)} {m:Str->Option Value},(∀ v,(x,v)∉binds)->bindC kindOf binds m x=m x
 | [],_,_=>rfl
 | (n,v)::r,m,h=>by
  unfold bindC;rw [Gd fun w hw=>h w (List.mem_cons_of_mem _ hw)]
  split
  ·rfl
  ·have:x≠n:=by rintro rfl;exact h v List.mem_cons_self
   simp [this]
theorem Ge {kindOf:Str->Option NameKind} {x:Str} {v:Value}:∀ {P:List Str} {vs:List Value} {i:Nat} {m:Str->Option Value},P.Nodup->P[i]?=some x->vs[i]?=some v->kindOf x=some .local ->
  bindL kindOf (P.zip vs) m x=some v
 | [],_,_,_,_,h,_,_=>by simp at h
 | _::_,[],_,_,_,_,h,_=>by simp at h
 | p::P,w::vs,0,m,nd,h1,h2,hk=>by
  simp at h1 h2;subst h1;subst h2
  show bindL kindOf ((p,w)::P.zip vs) m p=_
  unfold bindL;rw [Gb fun v hv=>(List.nodup_cons.mp nd).1 (List.of_mem_zip hv).1,if_pos hk];simp
 | p::P,w::vs,i+1,m,nd,h1,h2,hk=>by
  show bindL kindOf ((p,w)::P.zip vs) m x=_
  unfold bindL;exact Ge (i:=i) (List.nodup_cons.mp nd).2 (by simpa using h1) (by simpa using h2) hk
theorem Gf {kindOf:Str->Option NameKind} {x:Str} {v:Value}:∀ {P:List Str} {vs:List Value} {i:Nat} {m:Str->Option Value},P.Nodup->P[i]?=some x->vs[i]?=some v->kindOf x≠some .local ->
  bindC kindOf (P.zip vs) m x=some v
 | [],_,_,_,_,h,_,_=>by simp at h
 | _::_,[],_,_,_,_,h,_=>by simp at h
 | p::P,w::vs,0,m,nd,h1,h2,hk=>by
  simp at h1 h2;subst h1;subst h2
  show bindC kindOf ((p,w)::P.zip vs) m p=_
  unfold bindC;rw [Gd fun v hv=>(List.nodup_cons.mp nd).1 (List.of_mem_zip hv).1,if_neg hk];simp
 | p::P,w::vs,i+1,m,nd,h1,h2,hk=>by
  show bindC kindOf ((p,w)::P.zip vs) m x=_
  unfold bindC;exact Gf (i:=i) (List.nodup_cons.mp nd).2 (by simpa using h1) (by simpa using h2) hk
def Wq (N:List Str) (vs:List V):St:=vs.map some++List.replicate (N.length - vs.length) none
def Ur (CX:dz) (P:Program) (w:World) (K:W.Frag) (mg:Str->Option Value) (base:Heap) (N:List Str) (qual:Str) (scope:Scope) (f:Addr) (cd:Value) (A:Around) (outer:List Env) (s:Shared) (H:Hp) (E:XK):Cx where
 prog:=P
 w:=w
 K:=K
 mg:=mg
 base:=base
 A:=A.deeper (envOfC qual scope s.heap.objs.size f cd)
 N:=N
 s₀:=s
 H₀:=H
 env:=envOfC qual scope s.heap.objs.size f cd
 outer:=outer
 stack:=envOfC qual scope s.heap.objs.size f cd::outer
 ex:=[]
 calm:=true
 fn:=fun _=>true
 pn:=[]
 xe:=fun e s'=>wpAny (model P w) (A.deeper (envOfC qual scope s.heap.objs.size f cd)) (leaving (envOfC qual scope s.heap.objs.size f cd) e) (fun _ s''=>CX outer H s E e s'') (fun e' s''=>CX outer H s E e' s'') s'
theorem Gg {sc:Scope} {n:Nat} {x:Str} (h:sc.names.lookup x=some .cell):∃ c,(cellsFrom n sc.names []).lookup x=some c:=by
 have q:=W.cellsFrom_some sc.names n [] (.inl h);exact Option.isSome_iff_exists.mp q
theorem RN {CX:dz} {P:Program} {w:World} {K:W.Frag} {mg:Str->Option Value} {base:Heap} {N ps:List Str} {qual:Str} {scope:Scope} {f:Addr} {cd:Value} {A:Around} {outer:List Env} {s s1:Shared} {H:Hp} {E:XK} {us:List Value} {vs:List V}
  (S:ak N ps scope) (hd:A.handled=none) (e0:gG P w K mg base A outer s H) (hl:vs.length=ps.length) (r:Yx vs us)
  (x:InCallC s s.heap.objs.size (bindL (envOfC qual scope s.heap.objs.size f cd).kindOf (ps.zip us) fun _=>none) (cellsFrom (s.heap.objs.size+1) scope.names []) (bindC (envOfC qual scope s.heap.objs.size f cd).kindOf (ps.zip us) fun _=>none) s1) :
  Inv (Ur CX P w K mg base N qual scope f cd A outer s H E) [] (Wq N vs) H s1:=by
 have hpl:ps.length<=N.length:=by have:=congrArg List.length S.pre;rw [List.length_take] at this;omega
 obtain ⟨h1,tk,rfl,hk⟩:=x.done;have pH:∀ b:Addr,b∉(Ur CX P w K mg base N qual scope f cd A outer s H E).ex:=fun b z=>absurd (show b∈([]:List Addr) from z) (by simp)
 refine ⟨⟨e0.mod,S.kind,rfl,rfl,Nat.le_refl _,fun y z c h1 h2=>?_,fun y hy=>?_,fun y c _ h=>?_,fun _=>hd,Around.frames_deeper e0.frames,.inr ⟨rfl,rfl⟩,fun b z=>absurd z (pH b),e0.bs,e0.gO,fun b _ _=>pH b,fun b z=>absurd z (pH b),e0.cU,e0.ji⟩,
  rfl,e0.bare,Un.kept hk,⟨_,x.toInCall.ns,fun i y v h1 h2 h3=>?_⟩,fun y c h=>⟨_,x.cell y c h⟩,e0.hok.fresh (Nat.le_refl _),fun y c h=>?_,fun p hp=>absurd (show p∈([]:List (Addr×Obj)) from hp) (by simp),e0.hok.kept hk,?_⟩
 ·exact name_of_addr x.apart (PySem.mem_of_lookup h1) (PySem.mem_of_lookup h2)
 ·have hy:scope.names.lookup y=some .cell\/scope.names.lookup y=some .free:=hy
  rcases hy with hy | hy
  ·exact Gg hy
  ·exact absurd rfl (S.wL _ (PySem.mem_of_lookup hy))
 ·exact Nat.le_of_lt (x.above y c (PySem.mem_of_lookup h))
 ·have hi:i<vs.length:=by
   unfold Wq at h2;by_cases hi:i<vs.length
   ·exact hi
   ·rw [List.getElem?_append_right (by simpa using hi)] at h2
    rw [List.getElem?_replicate] at h2
    split at h2<;>cases h2
  have ha:vs[i]?=some v:=by
   unfold Wq at h2;rw [List.getElem?_append_left (by simpa using hi),List.getElem?_map] at h2
   cases e:vs[i]? with
   | none=>rw [e] at h2;cases h2
   | some a=>rw [e] at h2;cases h2;rfl
  obtain ⟨u,hu,rv⟩:=r.get ha;have hp:ps[i]?=some y:=by
   rw [<- S.pre,List.getElem?_take_of_lt (by omega)];exact h1
  have Gh:ps.Nodup:=by rw [<- S.pre];exact S.nd.sublist (List.take_sublist _ _)
  refine ⟨u,rv,?_⟩;rcases S.par y (List.mem_of_getElem? hp) with k | k
  ·exact .inl ⟨k,Ge Gh hp hu k⟩
  ·obtain ⟨c,e⟩:=Gg (n:=s.heap.objs.size+1) k
   refine .inr ⟨.inl k,c,e,?_⟩;have q:=x.cell y c e;rw [Gf Gh hp hu (by show scope.names.lookup y≠_;rw [k];decide)] at q
   exact q
 ·exact e0.hok.fresh (Nat.le_of_lt (x.above y c (PySem.mem_of_lookup h)))
 ·unfold Wq
  show _=N.length
  rw [List.length_append,List.length_map,List.length_replicate];omega
theorem Gi {CX:dz} {P:Program} {w:World} {K:W.Frag} {mg:Str->Option Value} {base:Heap} {k:Nat} {f:Addr} {name qual:Str} {params:Arguments} {body:List Stmt} {scope:Scope} {dV kV doc pm cdv ct oc:Value} {an od:Option Addr}
  {osl:Array (Option Value)} {N ps:List Str} {sp:Sp} (lk:K.lookup f=some ⟨oc,od,.func (W.fnOf name qual params body scope dV kV doc pm an cdv ct),osl⟩) (hcd:W.codeIn K cdv qual=true) (S:ak N ps scope)
  (len:∀ vs H Q E,sp vs H Q E->vs.length=ps.length)
  (hbody:∀ (A:Around) (outer:List Env) (s:Shared) (H:Hp) (vs:List V) (Q:VK) (E:XK),aQ k (A.deeper (envOfC qual scope s.heap.objs.size f cdv))->sp vs H Q E ->
   ∃ t,dM (Ur CX P w K mg base N qual scope f cdv A outer s H E) body t/\t { nx:=fun _ H'=>Q .non H',rt:=Q } (Wq N vs) H) :
  bM P w K mg base CX (k+1) f (W.fnOf name qual params body scope dV kV doc pm an cdv ct) ps sp:=by
 refine ⟨len,fun A outer s H args us vs Q E hr e0 hb r hsp=>?_⟩;have hl:=len _ _ _ _ hsp;have KX:K.In s.heap:=e0.mod.jg.keeps fun b o e=>(e0.bs b o e).1
 have lim:s.heap.NoLimit:=e0.mod.nolimit.keeps fun b o e=>(e0.bs b o e).1
 have hkind:∀ y∈ps.zip us,scope.names.lookup y.1=some .local\/(scope.names.lookup y.1=some .cell/\((cellsFrom (s.heap.objs.size+1) scope.names []).lookup y.1).isSome=true):=fun ⟨n,v⟩ hy=>by
  rcases S.par n (List.of_mem_zip hy).1 with q | q
  ·exact .inl q
  ·exact .inr ⟨q,W.cellsFrom_some _ _ _ (.inl q)⟩
 refine codeAny_call_function hr.depth (KX _ _ lk) rfl S.co S.gen rfl (W.codeRec_of KX hcd) (hb _ _ _ _ ?_);refine wpAny_newFunctionEnv_cells S.kind hkind fun env he s1 x=>?_
 subst he;refine ⟨lim.keeps x.toInCall.keep,codeAny_func ?_⟩;obtain ⟨t,ht,hq⟩:=hbody A outer s H vs Q E (hr.deeper _) hsp;have I:Inv (Ur CX P w K mg base N qual scope f cdv A outer s H E) [] (Wq N vs) H s1:=RN S hr.hd e0 hl r x;refine wpAny_mono (ht [] s1 (Wq N vs) H _ I hq) (fun fl s' hs=>?_) fun e s' hs=>hs
 have fin:∀ {σ':St} {H':Hp} {v:V} {u:Value},Inv (Ur CX P w K mg base N qual scope f cdv A outer s H E) [] σ' H' s'->YF v u->Q v H'->CE outer P w H s Q u s' :=
  fun {σ' H' v u} J rv q=>⟨v,H',J.os,J.bare,J.base,J.hok,rv,q⟩
 cases fl with
 | ret u =>
  obtain ⟨v,σ',H',J,rv,q⟩:=hs;exact fin J rv q
 | next =>
  obtain ⟨σ',H',J,q⟩:=hs;exact fin (v:=V.non) (u:=Value.none) J rfl q
 | brk =>
  obtain ⟨_,_,_,q⟩:=hs;exact False.elim q
 | cont =>
  obtain ⟨_,_,_,q⟩:=hs;exact False.elim q
section
variable {X:Cx} {x:Str} {p pos:Pos} {e:Expr} {es:List Expr} {t:TA} {id T:String} {r:List V->Hp->VK->Prop}
def mJ (r:List V->Hp->VK->Prop) (t:TA):TE:=fun σ H Q=>t σ H fun vs H1=>r vs H1 Q
theorem RP (hc:X0 X (.builtin id) r) (hg:Gl X x) (hm:X.mg x=none) (hv:bootBuiltins x=some (.builtin id)) (ha:PA X (e::es) t) (hn:x≠"__name__":=by decide) (hdb:(x==("__debug__":Str))=false:=by decide)
  (he:starEach (e::es) X.env=(false,eval e X.env)::starEach es X.env:=by rfl) (hpl:(backTo pos (starEach es X.env)).any (·.1)=false:=by rfl):PE X (.Call (.Name x p) (e::es) [] pos) (mJ r t):=by
 intro pins s σ H Q I h;refine wpAny_Call_Name_kw (Wl I hg hm hv ?_ hn hdb);exact PyProof.Rows.callWith_builtin1 (aG (ha pos pins s σ H _ I h) fun us s1 ⟨vs,H1,I1,r1,q1⟩=>hc pins s1 σ H1 vs us Q I1 r1 q1) he hpl
theorem RQ (hc:X0 X (.type T) r) (hg:Gl X x) (hm:X.mg x=none) (hv:bootBuiltins x=some (.type T)) (ha:PA X (e::es) t) (hn:x≠"__name__":=by decide) (hdb:(x==("__debug__":Str))=false:=by decide)
  (he:starEach (e::es) X.env=(false,eval e X.env)::starEach es X.env:=by rfl) (hpl:(backTo pos (starEach es X.env)).any (·.1)=false:=by rfl):PE X (.Call (.Name x p) (e::es) [] pos) (mJ r t):=by
 intro pins s σ H Q I h;refine wpAny_Call_Name_kw (Wl I hg hm hv ?_ hn hdb);exact PyProof.Rows.callWith_type1 (aG (ha pos pins s σ H _ I h) fun us s1 ⟨vs,H1,I1,r1,q1⟩=>hc pins s1 σ H1 vs us Q I1 r1 q1) he hpl
end
end L2
namespace HT
open PySem PyProof.Rows
section
variable {prog:Program} {w:World} {A:Around} {E:Value->Shared->Prop} {s:Shared}
def dB (n d:Nat):Option Int->Nat
 | none=>d
 | some v=>if v<0 then (v+(n:Int)).toNat else min v.toNat n
end
end HT
namespace L2
open PySem PySem.Spec PyProof.Rows
abbrev TO:=St->Hp->(Option Int->Hp->Prop)->Prop
def PO (X:Cx) (e:Option Expr) (t:TO):Prop :=
 ∀ (pins:List (Addr×Obj)) (s:Shared) (σ:St) (H:Hp) (Q:Option Int->Hp->Prop),Inv X pins σ H s->t σ H Q ->
  wpAny (model X.prog X.w) X.A (evalPart e X.env) (fun u s'=>∃ o H',Inv X pins σ H' s'/\IsPart u o/\Q o H') X.xe s
def Gj:TO:=fun _ H Q=>Q none H
def wM (t:TE):TO:=fun σ H Q=>t σ H fun x H1=>kI x fun i=>Q (some i) H1
theorem RT {ns:List Int}:∀ {us:List Value},Yx (ns.map V.int) us->IntsAre us ns:=by
 induction ns with
 | nil=>intro us r;rw [List.map_nil] at r;cases r;exact .nil
 | cons n ns ih =>
  intro us r;rw [List.map_cons] at r
  cases r with
  | cons r1 r2 =>
   obtain ⟨t,e⟩:=r1;subst e;exact .cons n t (ih r2)
section
variable {X:Cx} {e:Expr} {te:TE} {lo hi:Option Expr} {tl th:TO} {pos p2:Pos}
theorem Gk (h:PE X e te):PO X (some e) (wM te):=by
 intro pins s σ H Q I hw;rw [evalPart_some];refine aG (h pins s σ H _ I hw) fun u s1 ⟨x,H1,I1,r1,q1⟩=>?_
 obtain ⟨i,rfl,q⟩:=QK.mp q1;obtain ⟨t,rfl⟩:=r1;exact ⟨some i,H1,I1,.int i t,q⟩
def Gm (X:Cx) (r:V->Option Int->Option Int->Hp->VK->Prop):Prop :=
 ∀ (pins:List (Addr×Obj)) (s:Shared) (σ:St) (H:Hp) (x:V) (v vl vu:Value) (lo hi:Option Int) (sl:Addr) (Q:VK),Inv X pins σ H s->YF x v->s.heap.IsSliceOf sl vl vu .none->IsPart vl lo->IsPart vu hi->r x lo hi H Q ->
  ∃ T id,typeLookup (.type T) "__getitem__"=pure (some (.builtin id))/\s.TypeIs v T/\wpAny (model X.prog X.w) X.A (getItem v (.ref sl)) (EP X pins σ Q) X.xe s
def wN (r:V->Option Int->Option Int->Hp->VK->Prop) (te:TE) (tl th:TO):TE:=fun σ H Q=>te σ H fun x H1=>tl σ H1 fun l H2=>th σ H2 fun u H3=>r x l u H3 Q
theorem RW {r:V->Option Int->Option Int->Hp->VK->Prop} (hr:Gm X r) (he:PE X e te) (hl:PO X lo tl) (hu:PO X hi th):PE X (.Subscript e (.Slice lo hi none p2) pos) (wN r te tl th):=by
 intro pins s σ H Q I h;refine Subscript_ (aG (he pins s σ H _ I h) fun v s1 ⟨x,H1,I1,r1,q1⟩=>?_);refine wpAny_Slice (aG (hl pins s1 σ H1 _ I1 q1) fun vl s2 ⟨l,H2,I2,pl,q2⟩=>aG (hu pins s2 σ H2 _ I2 q2) fun vu s3 ⟨u,H3,I3,pu,q3⟩=>?_);rw [evalPart_none];refine wpAny_pure ?_;have I4:Inv X pins σ H3 { s3 with heap:=s3.heap.push { cls := .type "slice",data := .fields #[vl,vu,.none] } }:=I3.kept (t':=s3.toks) fun b ob q=>Heap.get?_push_of_some _ q
 obtain ⟨T,id,hT,ht,hg⟩:=hr pins { s3 with heap:=s3.heap.push { cls := .type "slice",data := .fields #[vl,vu,.none] } } σ H3 x v vl vu l u s3.heap.objs.size Q I4 r1 (Heap.IsSliceOf.new ..) pl pu q3
 show wpAny (model X.prog X.w) X.A (subscriptTail e (.Slice lo hi none p2) v (.ref s3.heap.objs.size)) (EP X pins σ Q) X.xe { s3 with heap:=s3.heap.push { cls := .type "slice",data := .fields #[vl,vu,.none] } }
 exact tail_any (ops:=[.ref s3.heap.objs.size,v]) ht hT hg (by with_unfolding_all rfl)
def QN (xs:List V) (lo hi:Option Int):List V:=(xs.drop (HT.dB xs.length 0 lo)).take (HT.dB xs.length xs.length hi - HT.dB xs.length 0 lo)
theorem RX (xs:List V) (lo hi:Option Int):(QN xs lo hi).length<=xs.length:=by
 unfold QN;rw [List.length_take,List.length_drop];omega
end
def cV (n:Nat) (i:Int):Option Nat:=if 0<=i then (if i<n then some i.toNat else none) else if -(n:Int)<=i then some (i+n).toNat else none
def dY {α:Type} (xs:List α) (i:Int):Option α:=(cV xs.length i).bind fun j=>xs[j]?
theorem RZ {n:Nat} {i:Int} {j:Nat} (h:cV n i=some j):seqIndex? i n=some j/\j<n /\ -(n:Int)<=i/\i<n:=by
 unfold cV at h;by_cases h0:0<=i
 ·rw [if_pos h0] at h
  by_cases h1:i<n
  ·rw [if_pos h1] at h
   have e:i.toNat=j:=Option.some.inj h;exact ⟨by rw [seqIndex_of h0 h1,e],by omega,by omega,h1⟩
  ·rw [if_neg h1] at h;cases h
 ·rw [if_neg h0] at h
  by_cases h1 : -(n:Int)<=i
  ·rw [if_pos h1] at h
   have e:(i+n).toNat=j:=Option.some.inj h;exact ⟨by rw [seqIndex_neg (by omega) h1,e],by omega,h1,by omega⟩
  ·rw [if_neg h1] at h;cases h
theorem Gn {α:Type} {xs:List α} {i:Int} {v:α} (h:dY xs i=some v):∃ j,seqIndex? i xs.length=some j/\xs[j]?=some v/\j<xs.length /\ -(xs.length:Int)<=i/\i<xs.length:=by
 unfold dY at h
 cases e:cV xs.length i with
 | none=>rw [e] at h;cases h
 | some j =>
  rw [e] at h
  obtain ⟨h1,h2,h3,h4⟩:=RZ e;exact ⟨j,h1,h,h2,h3,h4⟩
theorem Yr {α:Type} {xs:List α} {j:Nat} {v:α} (h:xs[j]?=some v):dY xs (j:Int)=some v:=by
 have hj:j<xs.length:=(List.getElem?_eq_some_iff.mp h).1;have e:cV xs.length (j:Int)=some j:=by
  unfold cV;rw [if_pos (by omega),if_pos (by omega)];simp
 unfold dY;rw [e];exact h
theorem R0 {α:Type} (xs:List α) (v:α):dY (xs++[v]) (-1)=some v:=by
 have hl:(xs++[v]).length=xs.length+1:=by simp
 have e:cV (xs++[v]).length (-1)=some xs.length:=by
  unfold cV;rw [hl,if_neg (by decide),if_pos (by omega)]
  congr 1
  omega
 unfold dY;rw [e]
 show (xs++[v])[xs.length]?=some v
 simp
def R3 (b:Expr):Prop:=∀ o i,subscripted b false o i=operate [o,i] (getItem o i)
def ug (X:Cx) (r:R2):Prop :=
 ∀ (value slice:Expr) (pins:List (Addr×Obj)) (s:Shared) (σ:St) (H:Hp) (x y:V) (v u:Value) (Q:VK),Inv X pins σ H s->YF x v->YF y u->r x y H Q ->
  subscripted slice false v u=operate [v,u] (getItem v u)->wpAny (model X.prog X.w) X.A (subscriptTail value slice v u) (EP X pins σ Q) X.xe s
def uh (X:Cx) (id:String) (r:V->List V->Hp->VK->Prop):Prop :=
 ∀ (pins:List (Addr×Obj)) (s:Shared) (σ:St) (H:Hp) (x:V) (xs:List V) (v:Value) (us:List Value) (Q:VK),Inv X pins σ H s->YF x v->Yx xs us->r x xs H Q ->
  wpAny (model X.prog X.w) X.A (call (.builtin id) (v::us)) (EP X pins σ Q) X.xe s
section
variable {X:Cx} {a b:Expr} {ta tb:TE} {pos:Pos}
theorem Yo {r:R2} (hr:ug X r) (ha:PE X a ta) (hb:PE X b tb) (hs:R3 b):PE X (.Subscript a b pos) (iD r ta tb):=by
 intro pins s σ H Q I h;exact Subscript_ (rO ha hb I h fun v u s2 x y H2 I2 rx ry q=>hr a b pins s2 σ H2 x y v u Q I2 rx ry q (hs _ _))
inductive mK (S:List V->Prop) (i:Int) (Q:V->Prop):Prop
 | mk (xs:List V) (h:S xs) (v:V) (e:dY xs i=some v) (q:Q v)
def rW (K:W.Frag):R2:=fun x y H Q=>kR x fun p=>kI y fun i=>mK (ao K H p) i fun v=>Q v H
theorem mK.e {S:Addr->List V->Prop} {x y:V} {Q:V->Prop} (h:kR x fun p=>kI y fun i=>mK (S p) i Q):∃ p xs i v,x = .ref p/\y = .int i/\S p xs/\dY xs i=some v/\Q v:=by
 obtain ⟨p,e1,h⟩:=W9.mp h;obtain ⟨i,e2,xs,h1,v,h2,h3⟩:=QK.mp h;exact ⟨p,xs,i,v,e1,e2,h1,h2,h3⟩
def um (K:W.Frag):R2:=fun x y H Q=>kR x fun p=>kI y fun i=>mK (au K H p) i fun v=>Q v H
theorem YL:ug X (rW X.K):=by
 intro value slice pins s σ H x y v u Q I rx ry h hs
 replace h:=mK.e h
 obtain ⟨p,xs,i,z,rfl,rfl,hq,he,q⟩:=h
 cases rx
 obtain ⟨t,rfl⟩:=ry;obtain ⟨its,r,pl,hz⟩:=I.list hq;obtain ⟨j,h1,h2,h3,h4,h5⟩:=Gn he;obtain ⟨w,ew,mL⟩:=r.get h2;have hl:=r.length;have hn:=wH;have fin:EP X pins σ Q w s:=⟨z,H,I,mL,q⟩;by_cases h0:0<=i
 ·have hj:i.toNat=j:=by
   rw [seqIndex_of h0 h5] at h1
   exact Option.some.inj h1
  exact item_listR pl.isList h0 (by omega) (by rw [hj];simpa using ew) fin hs
 ·have hj:(i+(its.toArray.size:Int)).toNat=j:=by
   rw [seqIndex_neg (by omega) h4] at h1
   rw [List.size_toArray,<- hl];exact Option.some.inj h1
  exact subscriptTail_builtinR (x:=w) pl.isList.typeIs slot_list_getitem.lookup
   (wpAny_getItem_list_neg (Q:=fun r s'=>r=w/\EP X pins σ Q r s') pl.isList (by omega) (by rw [List.size_toArray]<;>omega) (by omega) (by rw [hj];simpa using ew) ⟨rfl,fin⟩) hs
theorem Ys:ug X (um X.K):=by
 intro value slice pins s σ H x y v u Q I rx ry h hs
 replace h:=mK.e h
 obtain ⟨p,xs,i,z,rfl,rfl,hq,he,q⟩:=h
 cases rx
 obtain ⟨t,rfl⟩:=ry;obtain ⟨its,r,pl,hz⟩:=I.tuple hq;obtain ⟨j,h1,h2,h3,h4,h5⟩:=Gn he;obtain ⟨w,ew,mL⟩:=r.get h2;have hl:=r.length;have hn:=wH;have fin:EP X pins σ Q w s:=⟨z,H,I,mL,q⟩;exact subscriptTail_builtinR (x:=w) pl.typeIs slot_tuple_getitem.lookup
  (getItem_tuple (j:=j) (Q:=fun r s'=>r=w/\EP X pins σ Q r s') pl (by omega) (by omega) (by rw [List.size_toArray,<- hl];exact h1) (by simpa using ew) ⟨rfl,fin⟩) hs
def Gp:V->V->V->Hp->(Hp->Prop)->Prop:=fun o i v H Q=>∃ p xs k j,o = .ref p/\i = .int k/\H p=some (.lst xs)/\cV xs.length k=some j/\Q (upd H p (.lst (xs.set j v)))
theorem R4 (lo hi:Option Int) (n:Nat):(sliceBounds lo hi none n).1=((HT.dB n 0 lo:Nat):Int)/\(sliceBounds lo hi none n).2.1=((HT.dB n n hi:Nat):Int)/\(sliceBounds lo hi none n).2.2=1:=by
 refine ⟨?_,?_,rfl⟩
 ·cases lo with
  | none=>simp [sliceBounds,HT.dB]
  | some i =>
   simp only [sliceBounds,HT.dB,Option.getD_none,show (1:Int)>0 by decide,if_true];by_cases h:i<0
   ·simp only [h,if_true]<;>omega
   ·simp only [h,if_false]<;>omega
 ·cases hi with
  | none=>simp [sliceBounds,HT.dB]
  | some i =>
   simp only [sliceBounds,HT.dB,Option.getD_none,show (1:Int)>0 by decide,if_true];by_cases h:i<0
   ·simp only [h,if_true]<;>omega
   ·simp only [h,if_false]<;>omega
theorem R5 (its:List Value) (lo hi:Option Int):slicePick its.toArray lo hi none=((its.drop (HT.dB its.length 0 lo)).take (HT.dB its.length its.length hi - HT.dB its.length 0 lo)).toArray:=by
 obtain ⟨h1,h2,h3⟩:=R4 lo hi its.toArray.size;unfold slicePick;rw [h1,h2,h3];simp only [sliceRange_one,pick_run,List.size_toArray]<;>rfl
inductive R6 (K:W.Frag) (H:Hp) (a:Addr) (Q:List V->Prop):Prop
 | mk (xs:List V) (h:ao K H a xs) (q:Q xs)
def rY (K:W.Frag):V->Option Int->Option Int->Hp->VK->Prop:=fun x lo hi H Q=>kR x fun a=>R6 K H a fun xs=>∀ p,H p=none->Q (.ref p) (upd H p (.lst (QN xs lo hi)))
theorem R7:Gm X (rY X.K):=by
 intro pins s σ H x v vl vu lo hi sl Q I rx hs pl pu h;obtain ⟨a,rfl,xs,hx,q⟩:=W9.mp h
 cases rx
 obtain ⟨its,r,ht,hz⟩:=I.list hx;have hlen:=r.length;refine ⟨"list",_,slot_list_getitem.lookup,ht.isList.typeIs,?_⟩;refine wpAny_getItem_list_slice ht.isList hs pl pu .none (by simp) ?_ (by rw [List.size_toArray]<;>omega);rw [R5,<- hlen];refine ⟨.ref s.heap.objs.size,_,I.laid (t':=s.toks) (o := .lst (QN xs lo hi)) (fun b ob q=>Heap.get?_push_of_some _ q) (Nat.le_refl _) ?_,rfl,q _ (I.hok.fresh (Nat.le_refl _))⟩;exact ⟨Nat.le_trans (RX xs lo hi) hz,_,0,(r.drop (HT.dB xs.length 0 lo)).take (HT.dB xs.length xs.length hi - HT.dB xs.length 0 lo),Heap.get?_push_size _ rfl⟩
def Vu:V->Bool
 | .non=>true
 | .bl _=>true
 | .int _=>true
 | .str _=>true
 | _=>false
def fV:V->V->Bool
 | .non,.non=>true
 | .bl a,.bl b=>a==b
 | .bl a,.int b=>(if a then 1 else 0)==b
 | .int a,.bl b=>a==(if b then 1 else 0)
 | .int a,.int b=>a==b
 | .str a,.str b=>a==b
 | _,_=>false
theorem R8 {A:Around} {s:Shared} {y x:V} {u v:Value} (ry:YF y u) (rx:YF x v) (fy:Vu y=true) (fx:Vu x=true):SeqAt.EqAt A s u v (fV y x):=by
 cases y with
 | non =>
  cases ry
  cases x with
  | non=>cases rx;exact SeqAt.EqAt.same _
  | bl b=>cases rx;exact SeqAt.EqAt.none_bool b
  | int b=>obtain ⟨t,rfl⟩:=rx;exact SeqAt.EqAt.none_int b t
  | str b=>obtain ⟨t,rfl⟩:=rx;exact SeqAt.EqAt.none_str b t
  | _=>exact absurd (show false=true from fx) Bool.false_ne_true
 | bl a =>
  cases ry
  cases x with
  | non=>cases rx;exact SeqAt.EqAt.bool_none a
  | bl b=>cases rx;exact SeqAt.EqAt.bool_bool a b
  | int b=>obtain ⟨t,rfl⟩:=rx;exact SeqAt.EqAt.bool_int a b t
  | str b=>obtain ⟨t,rfl⟩:=rx;exact SeqAt.EqAt.bool_str a b t
  | _=>exact absurd (show false=true from fx) Bool.false_ne_true
 | int a =>
  obtain ⟨t',rfl⟩:=ry
  cases x with
  | non=>cases rx;exact SeqAt.EqAt.int_none a t'
  | bl b=>cases rx;exact SeqAt.EqAt.int_bool a t' b
  | int b=>obtain ⟨t,rfl⟩:=rx;exact SeqAt.EqAt.int_int a t' b t
  | str b=>obtain ⟨t,rfl⟩:=rx;exact SeqAt.EqAt.int_str a t' b t
  | _=>exact absurd (show false=true from fx) Bool.false_ne_true
 | str a =>
  obtain ⟨t',rfl⟩:=ry
  cases x with
  | non=>cases rx;exact SeqAt.EqAt.str_none a t'
  | bl b=>cases rx;exact SeqAt.EqAt.str_bool a t' b
  | int b=>obtain ⟨t,rfl⟩:=rx;exact SeqAt.EqAt.str_int a t' b t
  | str b=>obtain ⟨t,rfl⟩:=rx;exact SeqAt.EqAt.str_str a t' b t
  | _=>exact absurd (show false=true from fx) Bool.false_ne_true
 | _=>exact absurd (show false=true from fy) Bool.false_ne_true
def dF (x:V) (u:Value):Bool:=match u with
 | .none=>fV .non x
 | .bool b=>fV (.bl b) x
 | .int i _=>fV (.int i) x
 | .str z _=>fV (.str z) x
 | _=>false
theorem Gq {x y:V} {u:Value} (r:YF y u) (f:Vu y=true):dF x u=fV y x:=by
 cases y with
 | non=>cases r;rfl
 | bl b=>cases r;rfl
 | int i=>obtain ⟨t,rfl⟩:=r;rfl
 | str z=>obtain ⟨t,rfl⟩:=r;rfl
 | _=>exact absurd (show false=true from f) Bool.false_ne_true
theorem VJ {x:V}:∀ {xs:List V} {us:List Value},Yx xs us->xs.all Vu=true->us.any (dF x)=xs.any fun y=>fV y x
 | _,_,.nil,_=>rfl
 | y::xs,u::us,.cons r t,f=>by
  rw [List.all_cons,Bool.and_eq_true] at f
  rw [List.any_cons,List.any_cons,Gq r f.1,VJ t f.2]
theorem Vf {A:Around} {s:Shared} {x:V} {v:Value} (rx:YF x v) (fx:Vu x=true):∀ {xs:List V} {us:List Value},Yx xs us->xs.all Vu=true->∀ u∈us,SeqAt.EqAt A s u v (dF x u)
 | _,_,.nil,_=>fun u hu=>by cases hu
 | y::xs,u::us,.cons r t,f=>fun u' hu=>by
  rw [List.all_cons,Bool.and_eq_true] at f
  rcases List.mem_cons.mp hu with rfl | hu
  ·rw [Gq r f.1];exact R8 r rx f.1 fx
  ·exact Vf rx fx t f.2 u' hu
def inV (x:V) (xs:List V):Bool:=xs.any fun y=>fV y x
def uo (K:W.Frag) (neg:Bool):R2:=fun x y H Q=>∃ p xs,y = .ref p/\(ao K H p xs\/au K H p xs)/\Vu x=true/\xs.all Vu=true/\Q (.bl (if neg then !inV x xs else inV x xs)) H
theorem Xt:bw X (compareOp .In) (uo X.K false):=by
 intro pins s σ H x y v u Q I rx ry h;obtain ⟨p,xs,rfl,hq,fx,fs,q⟩:=h
 cases ry
 rcases hq with hq | hq
 ·obtain ⟨its,r,pl,hz⟩:=I.list hq
  refine SeqAt.in_listAt (dF x) pl.isList (fun w hw=>Vf rx fx r fs w (by simpa using hw)) ⟨.bl _,H,I,rfl,?_⟩;rw [show its.toArray.any (dF x)=its.any (dF x) by simp,VJ r fs];exact q
 ·obtain ⟨its,r,pl,hz⟩:=I.tuple hq
  refine SeqAt.in_tupleAt (dF x) pl (fun w hw=>Vf rx fx r fs w (by simpa using hw)) ⟨.bl _,H,I,rfl,?_⟩;rw [show its.toArray.any (dF x)=its.any (dF x) by simp,VJ r fs];exact q
theorem R9:bw X (compareOp .NotIn) (uo X.K true):=by
 intro pins s σ H x y v u Q I rx ry h;obtain ⟨p,xs,rfl,hq,fx,fs,q⟩:=h
 cases ry
 rcases hq with hq | hq
 ·obtain ⟨its,r,pl,hz⟩:=I.list hq
  refine SeqAt.notIn_listAt (dF x) pl.isList (fun w hw=>Vf rx fx r fs w (by simpa using hw)) ⟨.bl _,H,I,rfl,?_⟩;rw [show its.toArray.any (dF x)=its.any (dF x) by simp,VJ r fs];exact q
 ·obtain ⟨its,r,pl,hz⟩:=I.tuple hq
  refine SeqAt.notIn_tupleAt (dF x) pl (fun w hw=>Vf rx fx r fs w (by simpa using hw)) ⟨.bl _,H,I,rfl,?_⟩;rw [show its.toArray.any (dF x)=its.any (dF x) by simp,VJ r fs];exact q
inductive NQ (K:W.Frag) (H:Hp) (p:Addr) (Q:Int->Prop):Prop
 | mk (ys:List V) (h:ao K H p ys\/au K H p ys) (q:Q ys.length)
def rZ (K:W.Frag):List V->Hp->VK->Prop:=fun xs H Q=>k1 xs fun x=>kR x fun p=>NQ K H p fun n=>Q (.int n) H
theorem YH:X0 X (.builtin "len") (rZ X.K):=by
 intro pins s σ H xs us Q I r h;obtain ⟨x,rfl,h1⟩:=vQ h;obtain ⟨p,rfl,ys,hq,q⟩:=W9.mp h1;obtain ⟨u,rfl,rx⟩:=W1 r
 cases rx
 have hn:=wH;rcases hq with hq | hq
 ·obtain ⟨its,r',pl,hz⟩:=I.list hq
  have hlen:=r'.length;exact Calls.call_len_list pl.isList (by simp only [List.size_toArray]<;>omega) ⟨.int ys.length,H,I.tok _,⟨s.toks+1,by rw [List.size_toArray,hlen]⟩,q⟩
 ·obtain ⟨its,r',pl,hz⟩:=I.tuple hq
  have hlen:=r'.length;exact len_tuple pl (by simp only [List.size_toArray]<;>omega) ⟨.int ys.length,H,I.tok _,⟨s.toks+1,by rw [List.size_toArray,hlen]⟩,q⟩
theorem Vg:X0 X (.type "list") (fun xs H Q=>∃ p ys,xs=[.ref p]/\(ao X.K H p ys\/au X.K H p ys)/\∀ l,H l=none->Q (.ref l) (upd H l (.lst ys))):=by
 intro pins s σ H xs us Q I r h;obtain ⟨p,ys,rfl,hq,q⟩:=h;obtain ⟨u,rfl,rx⟩:=W1 r
 cases rx
 have fin:∀ (its:List Value),Yx ys its->ys.length<=sizeLine->∀ (h':Heap) (c':Nat),(∀ b o',s.heap.get? b=some o'->h'.get? b=some o') ->
   h'.get? s.heap.objs.size=some { cls := .type "list",dict:=none,data := .seq its.toArray c',slots:=#[] }->EP X pins σ Q (.ref s.heap.objs.size) { s with heap:=h' }:=fun its r' hz h' c' kp e =>
  ⟨.ref s.heap.objs.size,_,I.laid (t':=s.toks) kp (Nat.le_refl _) (show Y1 X.prog X.w _ h' _ (.lst ys) from ⟨hz,its,c',r',e⟩),rfl,q _ (I.hok.fresh (Nat.le_refl _))⟩
 rcases hq with hq | hq
 ·obtain ⟨its,r',pl,hz⟩:=I.list hq
  have hlen:=r'.length;obtain ⟨o,ho,hc,n,hd⟩:=pl.isList;exact call_list_seq p (.inl rfl) ho hc hd (fun h' c' kp e=>fin its r' hz h' c' kp e) (by simp only [List.size_toArray]<;>omega)
 ·obtain ⟨its,r',pl,hz⟩:=I.tuple hq
  have hlen:=r'.length;obtain ⟨o,ho,hc,n,hd⟩:=pl;exact call_list_seq p (.inr rfl) ho hc hd (fun h' c' kp e=>fin its r' hz h' c' kp e) (by simp only [List.size_toArray]<;>omega)
theorem X9:X0 X (.type "tuple") (fun xs H Q=>∃ p ys,xs=[.ref p]/\((ao X.K H p ys/\∀ l,H l=none->Q (.ref l) (upd H l (.tup ys)))\/(au X.K H p ys/\Q (.ref p) H))):=by
 intro pins s σ H xs us Q I r h;obtain ⟨p,ys,rfl,h⟩:=h;obtain ⟨u,rfl,rx⟩:=W1 r
 cases rx
 rcases h with ⟨hq,q⟩ | ⟨hq,q⟩
 ·obtain ⟨its,r',pl,hz⟩:=I.list hq
  have hlen:=r'.length;refine call_tuple_list pl.isList (fun h' kp=>?_) (by simp only [List.size_toArray]<;>omega);have I1:Inv X pins σ H { s with heap:=h' }:=I.kept (t':=s.toks) kp;have I2:Inv X pins σ (upd H h'.objs.size (.tup ys)) { s with heap:=h'.push { cls := .type "tuple",data := .seq its.toArray } } :=
   I1.laid (t':=s.toks) (fun b o e=>Heap.get?_push_of_some _ e) (Nat.le_refl _) (show Y1 X.prog X.w _ _ _ (.tup ys) from ⟨hz,its,r',IsTup.new _ _⟩)
  exact ⟨.ref h'.objs.size,_,I2,rfl,q _ (I1.hok.fresh (Nat.le_refl _))⟩
 ·obtain ⟨its,r',pl,hz⟩:=I.tuple hq
  exact call_tuple_same pl ⟨.ref p,H,I,rfl,q⟩
def wO (K:W.Frag) (T:String) (x:V) (H:Hp):Prop:=match x with
 | .str _=>T="str"
 | .int _=>T="int"
 | .ref p=>(T="list"/\∃ xs,ao K H p xs)\/(T="tuple"/\∃ o,K.lookup p=some o/\o.cls = .type "tuple"/\o.dict=none) \/
   (T="dict"/\((∃ kvs,H p=some (.dK kvs))\/∃ kvs,H p=some (.dT kvs)))\/(T="set"/\∃ S n,H p=some (.set S n))
 | _=>False
theorem Gs {pins:List (Addr×Obj)} {σ:St} {H:Hp} {s:Shared} {T:String} {x:V} {v:Value} (I:Inv X pins σ H s) (r:YF x v) (ty:wO X.K T x H) :
  s.TypeIs v T/\∀ a,v = .ref a->∃ ob,s.heap.get? a=some ob/\ob.dict=none:=by
 cases x with
 | str z =>
  obtain ⟨t,rfl⟩:=r
  cases (show T="str" from ty)
  exact ⟨typeIs_str s z t,fun _ e=>nomatch e⟩
 | int i =>
  obtain ⟨t,rfl⟩:=r
  cases (show T="int" from ty)
  exact ⟨typeIs_int s i t,fun _ e=>nomatch e⟩
 | ref p =>
  cases r
  rcases ty with ⟨rfl,xs,hq⟩ | ⟨rfl,o,hk,hc,hd⟩ | ⟨rfl,hk⟩ | ⟨rfl,S,n,hk⟩
  ·obtain ⟨its,_,pl,_⟩:=I.list hq
   refine ⟨pl.isList.typeIs,fun a e=>?_⟩
   cases e
   obtain ⟨o,n,e,c,hd,_⟩:=pl;exact ⟨o,e,hd⟩
  ·refine ⟨⟨o,I.bA p o hk,hc⟩,fun a e=>?_⟩
   cases e
   exact ⟨o,I.bA _ o hk,hd⟩
  ·have z:∃ o,s.heap.get? p=some o/\o.ExactDict:=by
    rcases hk with ⟨kvs,hk⟩ | ⟨kvs,hk⟩
    ·obtain ⟨_,_,_,_,o,_,_,e,ex,_⟩:=I.hok p _ hk
     exact ⟨o,e,ex⟩
    ·obtain ⟨_,_,_,_,o,_,_,e,ex,_⟩:=I.hok p _ hk
     exact ⟨o,e,ex⟩
   obtain ⟨o,e,ex⟩:=z;refine ⟨⟨o,e,ex.1⟩,fun a e2=>?_⟩
   cases e2
   exact ⟨o,e,ex.2.1⟩
  ·obtain ⟨o,_,_,_,e,ex,_⟩:=I.hok p _ hk
   refine ⟨⟨o,e,ex.1⟩,fun a e2=>?_⟩
   cases e2
   exact ⟨o,e,ex.2.1⟩
 | _=>exact False.elim ty
def su (K:W.Frag) (T:String) (r:V->List V->Hp->VK->Prop) (to:TE):TE:=fun σ H Q=>to σ H fun x H1=>wO K T x H1/\r x [] H1 Q
def wQ (K:W.Frag) (T:String) (r:V->List V->Hp->VK->Prop) (to:TE) (t:TA):TE:=fun σ H Q=>to σ H fun x H1=>wO K T x H1/\t σ H1 fun xs H2=>r x xs H2 Q
variable {o e:Expr} {es:List Expr} {to:TE} {t:TA} {name:Str} {apos cpos:Pos} {T id:String} {r:V->List V->Hp->VK->Prop}
theorem Sd (pa:PlainAttrs T) (slot:Slot T name id) (hty:typeOf (.builtin id)=pure (.type "method_descriptor")) (hm:uh X id r) (ho:PE X o to)
  (hbase:attributeBase o name X.env (eval o X.env)=eval o X.env) (hline:(apos.endLine==cpos.line)=true):PE X (.Call (.Attribute o name apos) [] [] cpos) (su X.K T r to):=by
 intro pins s σ H Q I h;refine wpAny_Call_method0_late hbase hline (aG (ho pins s σ H _ I h) fun v s1 ⟨x,H1,I1,r1,ty,q1⟩=>?_);obtain ⟨h1,h2⟩:=Gs I1 r1 ty;exact ⟨T,id,pa,slot,hty,h1,h2,Calls.callWith_builtin rfl (PySem.evalArgs_none (hm pins s1 σ H1 x [] v [] Q I1 r1 .nil q1))⟩
theorem Vv (pa:PlainAttrs T) (slot:Slot T name id) (hty:typeOf (.builtin id)=pure (.type "method_descriptor")) (hm:uh X id r) (ho:PE X o to) (ha:PA X (e::es) t)
  (hbase:attributeBase o name X.env (eval o X.env)=eval o X.env)
  (hfew:((backTo cpos (starEach (e::es) X.env)).all (fun x => !x.1)&&(backToKw cpos (keywordEach [] X.env)).all (fun x=>x.1.isSome)
   && decide ((e::es).length+([]:List Keyword).length+(if ([]:List Keyword).isEmpty then 0 else 1)<30))=true)
  (hline:(apos.endLine==cpos.line)=true) (hs:starEach (e::es) X.env=(false,eval e X.env)::starEach es X.env) (hplain:(backTo cpos (starEach es X.env)).any (·.1)=false) :
  PE X (.Call (.Attribute o name apos) (e::es) [] cpos) (wQ X.K T r to t):=by
 intro pins s σ H Q I h;refine wpAny_Call_method_late hbase hfew hline rfl (aG (ho pins s σ H _ I h) fun v s1 ⟨x,H1,I1,r1,ty,q1⟩=>?_);obtain ⟨h1,h2⟩:=Gs I1 r1 ty;refine ⟨T,id,pa,slot,hty,h1,h2,?_⟩;have hA:=ha cpos pins s1 σ H1 _ I1 q1;rw [hs] at hA ⊢
 refine Calls.callWith_builtin (by show (false||(backTo cpos (starEach es X.env)).any (·.1))=false;rw [hplain]<;>rfl) (Calls.evalArgs_plain ?_);exact aG hA fun us s2 ⟨vs,H2,I2,r2,q2⟩=>hm pins s2 σ H2 x vs v us Q I2 r1 r2 q2
/- xs.append(e),list.index on a module's tuple .. are uh facts of 06m -/
end
def Sg (X:Cx) (id:String) (r:V->List V->Hp->VK->Prop):Prop :=
 ∀ (pins:List (Addr×Obj)) (s:Shared) (σ:St) (H:Hp) (x:V) (xs:List V) (v:Value) (us:List Value) (Q:VK),Inv X pins σ H s->YF x v->Yx xs us->r x xs H Q ->
  wpAny (model X.prog X.w) X.A (call (.builtin id) (v::us)) (EP X pins σ Q) X.xe s
theorem Yx.one:∀ {x:V} {us:List Value},Yx [x] us->∃ u,us=[u]/\YF x u
 | _,_,.cons r .nil=>⟨_,rfl,r⟩
theorem Yx.two:∀ {x y:V} {us:List Value},Yx [x,y] us->∃ u v,us=[u,v]/\YF x u/\YF y v
 | _,_,_,.cons r (.cons q .nil)=>⟨_,_,rfl,r,q⟩
theorem Yx.zero:∀ {us:List Value},Yx [] us->us=[]
 | _,.nil=>rfl
section
variable {X:Cx} {pins:List (Addr×Obj)} {σ:St} {H:Hp} {s:Shared} {l b:Addr} {xs ys zs:List V}
theorem Inv.NT {its its':List Value} {n:Nat} {f:Array Value->Array Value} {t':Nat} (I:Inv X pins σ H s) (hH:H l=some (.lst xs))
  (e:s.heap.get? l=some { cls := .type "list",data := .seq its.toArray n }) (hf:f its.toArray=its'.toArray) (hv:Yx ys its') (hz:ys.length<=sizeLine) :
  Inv X pins σ (upd H l (.lst ys)) { s with heap:=s.heap.update l (Obj.mapSeq f),toks:=t' }:=by
 have q:=PySem.IsL.update e f;rw [hf] at q
 refine I.write (x:=l) (e:=l) (by rw [hH];exact trivial) (.inl rfl) (fun b' u hb hu=>(Heap.get?_update_other s.heap (Obj.mapSeq f) (Ne.symm hb)).trans hu) ⟨_,q⟩ ?_;exact ⟨hz,its',_,hv,q⟩
theorem Inv.sy {its:List Value} {t':Nat} (I:Inv X pins σ H s) (hv:Yx ys its) (hz:ys.length<=sizeLine) :
  Inv X pins σ (upd H s.heap.objs.size (.lst ys)) { s with heap:=s.heap.push { cls := .type "list",data := .seq its.toArray },toks:=t' } :=
 I.laid (fun _ _ q=>Heap.get?_push_of_some _ q) (Nat.le_refl _) ⟨hz,its,0,hv,Heap.get?_push_size _ rfl⟩
theorem Inv.fresh (I:Inv X pins σ H s):H s.heap.objs.size=none:=I.hok.fresh (Nat.le_refl _)
theorem Inv.sE (I:Inv X pins σ H s) (hH:H l=some (.lst xs)):xs.length<=sizeLine/\∃ (its:List Value) (n:Nat),Yx xs its/\xs.length=its.length/\s.heap.get? l=some { cls := .type "list",data := .seq its.toArray n }:=by
 obtain ⟨z,its,n,r,e⟩:=I.hok l _ hH;exact ⟨z,its,n,r,r.length,e⟩
end
section
variable {X:Cx}
inductive NZ (H:Hp) (l:Addr) (Q:List V->Prop):Prop
 | mk (xs:List V) (h:H l=some (.lst xs)) (hz:xs.length<sizeLine) (q:Q xs)
def QO:V->List V->Hp->VK->Prop:=fun x vs H Q=>kR x fun l=>k1 vs fun y=>NZ H l fun xs=>Q .non (upd H l (.lst (xs++[y])))
theorem Xu:Sg X "list.append" QO:=by
 intro pins s σ H x vs v us Q I rx rv h;obtain ⟨l,rfl,h1⟩:=W9.mp h;obtain ⟨y,rfl,xs,hH,hz,q⟩:=vQ h1
 cases rx
 obtain ⟨u,rfl,ru⟩:=rv.one;obtain ⟨z,its,n,r,hl,e⟩:=I.sE hH;refine call_meets F.slot_list_append ⟨_,e,rfl⟩ F.entry_list_append (F.args_list_append_2 _ _) (PySem.list_append l its.toArray n u (by rw [List.size_toArray];omega)) ⟨e,?_⟩;refine ⟨.non,_,I.NT (its':=its++[u]) hH e (by simp) (r.append (.cons ru .nil)) ?_,rfl,q⟩;rw [List.length_append,List.length_singleton];omega
def Gu:V->List V->Hp->VK->Prop:=fun x vs H Q=>∃ l xs,x = .ref l/\vs=[]/\H l=some (.lst xs)/\Q .non (upd H l (.lst xs.reverse))
inductive N5 (H:Hp) (l b:Addr) (Q:List V->List V->Prop):Prop
 | mk (xs:List V) (h:H l=some (.lst xs)) (zs:List V) (h':H b=some (.lst zs)) (hz:xs.length+zs.length<=sizeLine) (q:Q xs zs)
def sG:R2:=fun x y H Q=>kR x fun l=>kR y fun b=>N5 H l b fun xs zs=>∀ p,H p=none->Q (.ref p) (upd H p (.lst (xs++zs)))
theorem Sq:bw X (binaryOp .Add) sG:=by
 intro pins s σ H x y v u Q I rx ry h;obtain ⟨l,rfl,h1⟩:=W9.mp h;obtain ⟨b,rfl,xs,hH,zs,hB,hz,q⟩:=W9.mp h1
 cases rx
 cases ry
 obtain ⟨z,its,n,r,hl,e⟩:=I.sE hH;obtain ⟨z2,its2,n2,r2,hl2,e2⟩:=I.sE hB;refine PySem.P.add_list e e2 ?_ (by rw [List.size_toArray,List.size_toArray];omega);have ea:its.toArray++its2.toArray=(its++its2).toArray:=by simp
 rw [ea];exact ⟨.ref _,_,I.sy (t':=s.toks) (r.append r2) (by rw [List.length_append];omega),rfl,q _ I.fresh⟩
end
end L2
namespace Gv
open PySem PySem.W PySem.Calls PyProof.Rows
theorem Qq {P:Params} {h:Heap}:∀ (ns:List Int) (vs:List Value),WellAll P h vs (ns.map WData.int)->IntsAre vs ns:=by
 intro ns
 induction ns with
 | nil =>
  intro vs w;rw [List.map_nil] at w
  cases w
  exact .nil
 | cons n ns ih =>
  intro vs w;rw [List.map_cons] at w
  cases w with
  | cons a b =>
   cases a
   exact .cons _ _ (ih _ b)
theorem Ss {l:OpenLaw} {n:Nat} (hn:l.most=some n) {P:Params} {h:Heap} {args:List WData} {vals:List Value}
  (hpre:l.row.toRowW.claim.pre args=true) (hwl:WellAll P h vals args) :
  ∃ a vs ns,vals=[Value.ref a]/\args=[WData.list (ns.map WData.int)]/\h.get? a=some { cls := .type "list",data := .seq vs.toArray }/\IntsAre vs ns/\ns.length<=n:=by
 have hsh:WShape.hasAll [] args [.list .int]=true:=(pre_splitW hpre).1;have hc:l.pre.holds [] { args:=args }=true:=(pre_splitW hpre).2;obtain ⟨d,r,rfl,h1,h2⟩:=hasAllW_cons hsh;obtain rfl:=hasAllW_nil h2;obtain ⟨xs,rfl,h3⟩:=hasW_list h1;obtain ⟨ns,rfl⟩:=items_int h3;have hlen:ns.length<=n:=by
  unfold OpenLaw.pre at hc;have h4:(WTm.not (.lt (.lit (.int (n:Int))) (.len (.arg 0)))).holds [] { args:=[.list (ns.map .int)] }=true:=by
   have h4:=(holds_andW hc).1;rw [hn] at h4
   exact h4
  have h5:=condW_of h4 (w_not (w_lt w_lit (w_len_list (w_arg rfl))));rw [List.length_map] at h5
  refine Nat.le_of_not_lt fun q=>?_
  have q':(n:Int)<((ns.length:Nat):Int):=by omega
  first
   | (rw [decide_eq_true q'] at h5;exact absurd h5 (by decide))
   | (simp at h5;omega)
 cases hwl with
 | cons w1 w2 =>
  cases w2
  cases w1 with
  | list ho hall=>exact ⟨_,_,ns,rfl,rfl,ho,Qq ns _ hall,hlen⟩
theorem Sv (l:OpenLaw) (args:List WData):l.row.toRowW.claim.post args (.bool true) args=true :=
 postW_of (r:=l.row.toRowW) (X:=(true==true))
  (show WShape.has [] (.bool true) .bool=true by first | rfl | decide | simp [WShape.has,WShape.arms,WShape.armsAll])
  (show (WTm.eq .res (.lit (.bool true))).value [] { args:=args,res:=some (.bool true),after:=args }=some (.bool (true==true)) from w_eq_bool (w_res rfl) w_lit) rfl
theorem lC {l:OpenLaw} {n:Nat} {q:Program} {loose:List Str} {XP:(Str->Option Value)->Heap->Prop} {YP:World->Heap->Prop} {d:DefRec}
  (hn:l.most=some n) (hdf:d.params.defaults=[])
  (call:∀ (w:World) (s₀ s₁:Shared) (mg mb:Str->Option Value) (fa:Addr) (o:Obj) (pm cd doc:Value) (a:Addr) (vs:List Value) (ns:List Int),
   Ground q loose [] XP w s₀ mg mb s₁.heap->YP w s₁.heap ->
   s₁.heap.get? fa=some o->o.data = .func (docDef d.name d.params d.body d.scope pm cd doc)->s₁.heap.CodeRec cd d.name->mg d.name=some (.ref fa) ->
   s₁.heap.get? a=some { cls := .type "list",data := .seq vs.toArray }->IntsAre vs ns->ns.length<=n->s₁.gens=#[] ->
   codeAny (model l.prog w) callerA (.call (.ref fa) ⟨[.ref a],[]⟩) (fun r s'=>r = .ok (.ret (.bool true))/\OldK s₁.heap s'.heap/\s'.os=s₁.os/\AllBare s'.gens) s₁) :
  WalkO q loose XP YP l.row.toRowW d [] (fun f vs=>PySem.call f vs):=by
 intro w s₀ s₁ mg mb G Y fa o pm cd doc dV kV ho hd hcd hD hmg hg args vals as hpre hlay hrd hwl hlo;obtain rfl:dV = .none:=Dflts.none hD hdf;obtain rfl:kV = .none:=Dflts.noKw hD;obtain ⟨a,vs,ns,rfl,rfl,hobj,hints,hlen⟩:=Ss hn hpre hwl;refine enter_call (codeAny_mono (call w s₀ s₁ mg mb fa o pm cd doc a vs ns G Y ho (fd_plain hd) hcd hmg hobj hints hlen hg) fun r s' hq=>?_);obtain ⟨rfl,h2,h3,h4⟩:=hq;exact ⟨.inl ⟨.bool true,.bool true,[],rfl,fun _=>rfl,.bool true,Sv l _,fun _=>⟨List.Pairwise.nil,fun _ hm=>(nomatch hm)⟩⟩,h2,h3,h4⟩
section
variable {prog:Program} {w:World} {A:Around} {E:Value->Shared->Prop} {s:Shared} {K:Frag}
def ledger (h:Heap) (L d:Addr):List (Addr×Obj):=(List.range h.objs.size).filterMap fun a=>if a=L\/a=d then none else (h.get? a).map fun o=>(a,o)
end
end Gv
namespace L2
open PySem PySem.Spec PyProof.Rows
theorem Gw:∀ {vs:List Value} {ns:List Int},IntsAre vs ns->Yx (ns.map V.int) vs
 | _,_,.nil => .nil
 | _,_,.cons n t h => .cons ⟨t,rfl⟩ (Gw h)
def Only (H:Hp):Prop:=∀ b,H b=none\/∃ o xs,H b=some (.cQ o (.lst xs))
theorem Sx {P:Program} {w:World} {K:PySem.W.Frag} {mg mb:Str->Option Value} {CX:dz} {k:Nat} {fa a:Addr} {fd:FuncData} {x:Str} {sp:Sp} {s₁:Shared} {vs:List Value} {ns:List Int}
  (KX:K.In s₁.heap) (hns:s₁.heap.Ns mainGlobals mg) (hb:s₁.heap.Ns builtinsNs mb) (hbb:∀ x:Str,x≠"__name__"->mb x=bootBuiltins x) (hlim:s₁.heap.NoLimit) (hg:s₁.gens=#[])
  (ha:s₁.heap.get? a=some { cls := .type "list",data := .seq vs.toArray }) (hi:IntsAre vs ns) (hl:ns.length<=sizeLine) (hr:aQ k callerA)
  (F:∀ base:Heap,K.In base->base.Ns mainGlobals mg->bM P w K mg base CX k fa fd [x] sp) (hbind:∀ (s:Shared) (u:Value),BindsTo s fd ⟨[u],[]⟩ [(x,u)])
  (hsp:∀ H:Hp,Only H->ao K H a (ns.map V.int)->sp [.ref a] H (fun v _=>v = .bl true) fun _ _ _=>False)
  (Sy:∀ H e s',CX [] H s₁ (fun _ _ _=>False) e s'->False) :
  codeAny (model P w) callerA (.call (.ref fa) ⟨[.ref a],[]⟩) (fun r s'=>r = .ok (.ret (.bool true))/\OldK s₁.heap s'.heap/\s'.os=s₁.os/\AllBare s'.gens) s₁:=by
 have rv:=Gw hi;have lenV:=hi.length
 -- from an abstract heap in which nothing but the script may be tracked
 have core:∀ H:Hp,Only H->ao K H a (ns.map V.int)->bL P w H s₁.heap->(∀ b,H b≠none->b=a)->(H a≠none->K.lookup a=none) ->
   codeAny (model P w) callerA (.call (.ref fa) ⟨[.ref a],[]⟩) (fun r s'=>r = .ok (.ret (.bool true))/\OldK s₁.heap s'.heap/\s'.os=s₁.os/\AllBare s'.gens) s₁:=by
  intro H hO hS hok hA hK;have mO:∀ {b:Addr} {o:Obj},s₁.heap.get? b=some o->H b=none->(V5 s₁.heap H).get? b=some o:=fun e n=>Pn e n
  have pH:∀ {b:Addr} {o:Obj} {es:Array DictEntry} {ep:Nat},s₁.heap.get? b=some o->o.data = .dict es ep->H b=none:=fun {b o es ep} e d=>by
   cases q:H b with
   | none=>rfl
   | some u =>
    have e':b=a:=hA b (by rw [q];simp);subst e';rw [ha] at e;cases e
    have d':Data.seq vs.toArray _=Data.dict es ep:=d
    cases d'
  have uq:∀ {b:Addr} {m:Str->Option Value},s₁.heap.Ns b m->(V5 s₁.heap H).Ns b m:=fun {b m} ⟨o,es,ep,e,d,r⟩=>⟨o,es,ep,mO e (pH e d),d,r⟩
  have Gy:K.In (V5 s₁.heap H):=fun b o e=>mO (KX b o e) (by
   cases q:H b with
   | none=>rfl
   | some u =>
    have e':b=a:=hA b (by rw [q];simp);subst e';rw [hK (by rw [q];simp)] at e;cases e)
  have hM:Mod K mg (V5 s₁.heap H):=⟨Gy,uq hns,⟨mb,uq hb,hbb⟩,let ⟨mc,h1,h2⟩:=hlim;⟨mc,uq h1,h2⟩⟩;have e0:gG P w K mg (V5 s₁.heap H) callerA [] s₁ H:=⟨rfl,hM,fun b o e=>Pq e,Nat.le_of_eq (Pk _ _),trivial,fun b hb=>absurd (show b∈([]:List Addr) from hb) (by simp),hok,.of_eq hg⟩;refine codeAny_mono ((F _ Gy (uq hns)).run callerA [] s₁ H ⟨[.ref a],[]⟩ [.ref a] [.ref a] _ _ hr e0 (hbind s₁ (.ref a)) (.cons rfl .nil) (hsp H hO hS)) fun r s' h=>?_
  cases r with
  | error e=>exact (Sy H e s' h).elim
  | ok fl =>
   cases fl with
   | next=>exact False.elim h
   | brk=>exact False.elim h
   | cont=>exact False.elim h
   | ret u =>
    obtain ⟨v,H',os,bare,un,hok',r',q⟩:=h;have q':v = .bl true:=q;subst q';obtain rfl:u=Value.bool true:=r';refine ⟨rfl,OldK.of_keep fun b o e=>?_,os,bare⟩
    cases q:H b with
    | none=>exact un.keep b o e q (by intro z;exact absurd (show b∈([]:List Addr) from z) (by simp)) (by simp)
    | some u =>
     rcases hO b with z | ⟨ob,xs,z⟩
     ·rw [q] at z;cases z
     ·have z2:=un.dj b ob _ z
      obtain ⟨e1,_⟩:=hok b _ z;obtain ⟨e2,_⟩:=hok' b _ z2;rw [e] at e1;cases e1
      exact e2
 cases hk:K.lookup a with
 | some o =>
  -- the script is one of the module's own objects
  have e:=KX a o hk;rw [ha] at e
  cases e
  refine core (fun _=>none) (fun _ => .inl rfl) (.inr ⟨_,vs.toArray,_,hk,rfl,rfl,rfl,by rw [List.size_toArray,lenV];exact hl,by simpa using rv⟩) (fun b u z=>by have z':(none:Option HO)=some u:=z;cases z') (fun b z=>absurd rfl z) fun z=>absurd rfl z
 | none =>
  refine core (fun b=>if b=a then some (.cQ { cls := .type "list",data := .seq vs.toArray } (.lst (ns.map V.int))) else none) (fun b=>?_) (.inl (.inr ⟨{ cls := .type "list",data := .seq vs.toArray },if_pos rfl⟩)) (fun b u z=>?_) (fun b z=>?_) fun _=>hk
  ·by_cases hb:b=a
   ·exact .inr ⟨_,_,if_pos hb⟩
   ·exact .inl (if_neg hb)
  ·by_cases hb:b=a
   ·have z':=(if_pos hb).symm.trans z
    cases z'
    subst hb;exact ⟨ha,by rw [List.length_map];exact hl,vs,_,rv,ha⟩
   ·have z':=(if_neg hb).symm.trans z
    cases z'
  ·by_cases hb:b=a
   ·exact hb
   ·exact absurd (if_neg hb) z
def YQ (s:Stmt) (j:Nat):Stmt:=match s with
 | .ClassDef _ _ _ body _ _ _ _ _ _ _=>body.getD j (.Pass ⟨0,0,0,0⟩)
 | _ => .Pass ⟨0,0,0,0⟩
def Y9 (s:Stmt):Arguments:=match s with
 | .FunctionDef _ a _ _ _ _ _ _ _ _=>a
 | _=>{ posonlyargs:=[],args:=[],vararg:=none,kwonlyargs:=[],kw_defaults:=[],kwarg:=none,defaults:=[] }
def Y2 (s:Stmt):List Stmt:=match s with
 | .FunctionDef _ _ b _ _ _ _ _ _ _=>b
 | _=>[]
def Yi (s:Stmt):Scope:=match s with
 | .FunctionDef _ _ _ _ _ _ sc _ _ _=>sc
 | _=>{ kind := .function,names:=[],isGenerator:=false,isCoroutine:=false }
abbrev fX:dz:=fun _ _ _ _ _ _=>False
abbrev E0:XK:=fun _ _ _=>False
theorem Vw {X:Cx}:WP fX X E0:=fun _ _ _ _ _ _ _ h=>h.elim
structure fY (K:W.Frag) (x qual:Str) (st:Stmt) (f:Addr) (fd:FuncData):Prop where
 ex:∃ (oc:Value) (od:Option Addr) (kV doc pm:Value) (an:Option Addr) (cdv ct:Value) (osl:Array (Option Value)),
  fd=W.fnOf x qual (Y9 st) (Y2 st) (Yi st) .none kV doc pm an cdv ct/\K.lookup f=some ⟨oc,od,.func fd,osl⟩/\W.codeIn K cdv qual=true
 kp:W.keepIn K (.ref f)=true
section
variable {P:Program} {w:World} {K:W.Frag} {mg:Str->Option Value} {base:Heap}
theorem fY.ok {x qual:Str} {st:Stmt} {f:Addr} {fd:FuncData} {N ps:List Str} {k:Nat} {sp:Sp} (F:fY K x qual st f fd) (S:ak N ps (Yi st)) (len:∀ vs H Q E,sp vs H Q E->vs.length=ps.length)
  (hbody:∀ (cdv:Value) (A:Around) (outer:List Env) (s:Shared) (H:Hp) (vs:List V) (Q:VK) (E:XK),aQ k (A.deeper (envOfC qual (Yi st) s.heap.objs.size f cdv))->sp vs H Q E ->
   ∃ t,dM (Ur fX P w K mg base N qual (Yi st) f cdv A outer s H E).jm (Y2 st) t/\t { nx:=fun _ H'=>Q .non H',rt:=Q } (Wq N vs) H):bM P w K mg base fX (k+1) f fd ps sp:=by
 obtain ⟨oc,od,kV,doc,pm,an,cdv,ct,osl,rfl,lk,hcd⟩:=F.ex;refine Gi lk hcd S len fun A outer s H vs Q E hr hsp=>?_
 obtain ⟨t,h,q⟩:=hbody cdv A outer s H vs Q E hr hsp;exact ⟨t,h.jm,q⟩
theorem fY.binds {x qual:Str} {st:Stmt} {f:Addr} {fd:FuncData} {ps:List Str} (F:fY K x qual st f fd)
  (h:∀ (kV doc pm:Value) (an:Option Addr) (cdv ct:Value) (us:List Value),us.length=ps.length->bindArgs (PySem.W.fnOf x qual (Y9 st) (Y2 st) (Yi st) .none kV doc pm an cdv ct) ⟨us,[]⟩=pure (ps.zip us)):Xi K fd ps []:=by
 obtain ⟨oc,od,kV,doc,pm,an,cdv,ct,osl,rfl,lk,hcd⟩:=F.ex;exact .all (h kV doc pm an cdv ct)
theorem Us {x qual:Str} {st:Stmt} {f:Addr} {oc:Value} {od an:Option Addr} {osl:Array (Option Value)} {kV doc pm cdv ct:Value} (l:K.lookup f=some ⟨oc,od,.func (W.fnOf x qual (Y9 st) (Y2 st) (Yi st) .none kV doc pm an cdv ct),osl⟩)
  (c:W.codeIn K cdv qual=true) (k:W.keepIn K (.ref f)=true):fY K x qual st f (W.fnOf x qual (Y9 st) (Y2 st) (Yi st) .none kV doc pm an cdv ct):=⟨⟨oc,od,kV,doc,pm,an,cdv,ct,osl,rfl,l,c⟩,k⟩
end
section
variable {X:Cx}
theorem pv (i:Nat) {x:Str} {pos:Pos} (hN:X.N[i]?=some x:=by rfl) (hv:tH X.env.scope x:=by first | exact .inl rfl | exact .inr (.inl rfl) | exact .inr (.inr rfl)) (hd:(x==("__debug__":Str))=false:=by decide)
  (hcd:(x==("__classdict__":Str))=false:=by decide):PE X (.Name x pos) (XN i):=Px hN hv hd hcd
end
theorem N6 {A B:Prop} (h:B):if false=true then A else B:=by
 rw [if_neg Bool.false_ne_true];exact h
theorem Qb {A B:Prop} (h:A):if true=true then A else B:=by
 rw [if_pos rfl];exact h
theorem Y6 {c A B:Prop} [Decidable c] (h1:c->A) (h2:¬ c->B):if c then A else B:=by
 by_cases h:c
 ·rw [if_pos h]
  exact h1 h
 ·rw [if_neg h]
  exact h2 h
def Yj (H H':Hp):Prop:=∀ b o,H b=some o->H' b=some o
theorem Yj.refl (H:Hp):Yj H H:=fun _ _ h=>h
theorem Yj.trans {H H1 H2:Hp} (a:Yj H H1) (b:Yj H1 H2):Yj H H2:=fun c o h=>b c o (a c o h)
theorem Yj.free {H H':Hp} (e:Yj H H') {l:Addr} (h:H' l=Option.none):H l=Option.none:=by
 cases q:H l with
 | none=>rfl
 | some o =>
  rw [e l o q] at h
  cases h
theorem Yj.seq {K:W.Frag} {H H':Hp} {a:Addr} {xs:List V} (e:Yj H H') (h:ao K H a xs):ao K H' a xs:=by
 rcases h with (h | ⟨o,h⟩) | h
 ·exact .inl (.inl (e _ _ h))
 ·exact .inl (.inr ⟨o,e _ _ h⟩)
 ·exact .inr h
section
variable {κ:Type} [DecidableEq κ]
def wR (kvs:List (κ×V)) (k:κ):Option V:=(kvs.find? fun kv=>decide (kv.1=k)).map (·.2)
def putK (kvs:List (κ×V)) (k:κ) (v:V):List (κ×V) :=
 if (kvs.any fun kv=>decide (kv.1=k))=true then kvs.map (fun kv=>if kv.1=k then (kv.1,v) else kv) else kvs++[(k,v)]
end
theorem Gz {P:Program} {w:World} {k:Key} {u:Value} (r:YF (kV k) u):(XZ P w).is k u=true:=by
 cases k with
 | inl i=>obtain ⟨t,e⟩:=(show ∃ t,u=Value.int i t from r);subst e;exact Ph P w i t
 | inr x=>obtain ⟨t,e⟩:=(show ∃ t,u=Value.str x t from r);subst e;exact Pj P w x t
def sI (H:Hp) (a:Addr) (y:V) (r:Option V):Prop :=
 (∃ kvs k,Rd H a (.dK kvs)/\y=kV k/\r=wR kvs k)\/∃ kvs k b,Rd H a (.dT kvs)/\y = .ref b/\H b=some (.tup (k.map kV))/\r=wR kvs k
def N7 (H:Hp) (a:Addr) (y v:V) (H':Hp):Prop :=
 (∃ kvs k,H a=some (.dK kvs)/\y=kV k/\kvs.length<sizeLine/\H'=upd H a (.dK (putK kvs k v))) \/
 ∃ kvs k b,H a=some (.dT kvs)/\y = .ref b/\H b=some (.tup (k.map kV))/\kvs.length<sizeLine/\H'=upd H a (.dT (putK kvs k v))
section
variable {X:Cx} {pins:List (Addr×Obj)} {σ:St} {H:Hp} {s:Shared} {a:Addr} {y v:V} {u r:Value} {o:Option V} {A:Around} {E:Value->Shared->Prop}
theorem Inv.big (I:Inv X pins σ H s):sysModules<s.heap.objs.size:=by
 have h:mainGlobals<s.heap.objs.size:=(I.mod.glob.keeps I.bk).lt;exact Nat.lt_trans (by decide) h
theorem GC {h':Heap} {t':Nat} {ob:HO} (I:Inv X pins σ H s) (mu:pB (H a)) (hs:Heap.SameBut a s.heap h') (he:∃ q,h'.get? a=some q) (new:Y1 X.prog X.w (upd H a ob) h' a ob) :
  Inv X pins σ (upd H a ob) { s with heap:=h',toks:=t' } :=
 I.write (x:=a) (e:=a) mu (.inl rfl) (fun b q hb z=>(hs.2 b hb).trans z) he new
end
def wU (i:Expr):Prop:=∀ ov iv,subscripted i false ov iv=operate [ov,iv] (getItem ov iv)
theorem SJ {prog:Program} {w:World} {A:Around} {E:Value->Shared->Prop} {s:Shared} {env:Env} {value slice:Expr} {pos:Pos} {T id:String} {Q:Value->Shared->Prop}
  (hl:typeLookup (.type T) "__getitem__"=pure (some (.builtin id))) (hs:wU slice)
  (h:wpAny (model prog w) A (eval value env) (fun o s₁=>wpAny (model prog w) A (eval slice env) (fun i s₂=>s₂.TypeIs o T/\wpAny (model prog w) A (getItem o i) Q E s₂) E s₁) E s) :
  wpAny (model prog w) A (eval (.Subscript value slice pos) env) Q E s:=by
 refine Subscript_ (wpAny_mono h (fun o s₁ h₁=>wpAny_mono h₁ (fun i s₂ h₂=>?_) fun _ _ x=>x) fun _ _ x=>x);obtain ⟨hT,h₂⟩:=h₂;unfold subscriptTail;refine wpAny_bind ?_;rw [getitemInPython_of_ne hT.not_modules];refine wpAny_bind (wpAny_specialOf hT hl ?_);have fin:wpAny (model prog w) A (subscripted slice false o i) (fun r s₃=>wpAny (model prog w) A (letTemporaryGo value o r >>= fun _=>pure r) Q E s₃) E s₂:=by
  rw [hs o i];exact wpAny_operating (wpAny_mono h₂ (fun r s₃ h₃=>wpAny_bind (wpAny_letTemporaryGo (wpAny_pure h₃))) fun _ _ x=>x)
 first
  | exact wpAny_pure (wpAny_bind fin)
  | exact wpAny_bind (wpAny_pure (wpAny_bind fin))
  | exact wpAny_bind fin
def GD (td ty:TE):TE:=fun σ H Q=>td σ H fun x H1=>ty σ H1 fun y H2=>∃ a v,x = .ref a/\sI H2 a y (some v)/\Q v H2
def GF (td ty tv:TE):TS:=fun D σ H=>tv σ H fun v H1=>td σ H1 fun x H2=>ty σ H2 fun y H3=>∃ a H4,x = .ref a/\N7 H3 a y v H4/\D.nx σ H4
def GJ:TE:=fun _ H Q=>∀ p,H p=none->Q (.ref p) (upd H p (.dT []))
structure M2 (X:Cx) (o:Expr) (m:Str) (apos:Pos) (e f:Expr) (cpos:Pos):Prop where
 base:attributeBase o m X.env (eval o X.env)=eval o X.env
 few:((backTo cpos (starEach [e,f] X.env)).all (fun x => !x.1)&&(backToKw cpos (keywordEach [] X.env)).all (fun x=>x.1.isSome)
  && decide (([e,f]:List Expr).length+([]:List Keyword).length+(if ([]:List Keyword).isEmpty then 0 else 1)<30))=true
 line:(apos.endLine==cpos.line)=true
 trees:backTo cpos (starEach [e,f] X.env)=[(false,eval e X.env),(false,eval f X.env)]
theorem Vh (env:Env):∀ (names:List (Str×NameKind)) (cs:List (Str×Addr)),(∀ x,(x,NameKind.free)∈names->∃ c,env.cells.lookup x=some c) ->
  ∃ cl,(forIn names cs fun (p:Str×NameKind) (cs:List (Str×Addr))=>(if (p.2==NameKind.free)=true then (do let c <- cellOf env p.1;pure (ForInStep.yield ((p.1,c)::cs))) else pure (ForInStep.yield cs):Sem (ForInStep (List (Str×Addr)))))=pure cl /\
   (∀ x c,cl.lookup x=some c->env.cells.lookup x=some c\/cs.lookup x=some c)/\(∀ x,(x,NameKind.free)∈names->∃ c,cl.lookup x=some c)/\(∀ x c,cs.lookup x=some c->∃ d,cl.lookup x=some d)
 | [],cs,_=>⟨cs,by simp,fun _ _ h => .inr h,(fun _ h=>nomatch h),fun x c h=>⟨c,h⟩⟩
 | (n,k)::r,cs,h=>by
  by_cases hk:k=NameKind.free
  ·subst hk
   obtain ⟨c,hc⟩:=h n (List.mem_cons_self ..);obtain ⟨cl,e,a,b,d⟩:=Vh env r ((n,c)::cs) (fun x hx=>h x (List.mem_cons_of_mem _ hx));have hcell:cellOf env n=pure c:=by unfold cellOf;rw [hc]
   refine ⟨cl,?_,fun x c' hx=>?_,fun x hx=>?_,fun x c' hx=>?_⟩
   ·rw [List.forIn_cons]
    simp only [beq_self_eq_true,if_true,hcell,pure_bind];exact e
   ·rcases a x c' hx with q | q
    ·exact .inl q
    ·rw [List.lookup_cons] at q
     by_cases hxn:(x==n)=true
     ·rw [hxn] at q
      have hx':x=n:=by simpa using hxn
      subst hx';have:c=c':=by simpa using q
      subst this;exact .inl hc
     ·rw [Bool.eq_false_iff.mpr hxn] at q
      exact .inr q
   ·rcases List.mem_cons.mp hx with q | q
    ·have hx':x=n:=congrArg Prod.fst q
     subst hx';exact d x c (by rw [List.lookup_cons];simp)
    ·exact b x q
   ·have:∃ d',((n,c)::cs).lookup x=some d':=by
     rw [List.lookup_cons];by_cases hxn:(x==n)=true
     ·rw [hxn];exact ⟨c,rfl⟩
     ·rw [Bool.eq_false_iff.mpr hxn];exact ⟨c',hx⟩
    obtain ⟨d',hd'⟩:=this;exact d x d' hd'
  ·obtain ⟨cl,e,a,b,d⟩:=Vh env r cs (fun x hx=>h x (List.mem_cons_of_mem _ hx))
   have hkf:(k==NameKind.free)=false:=by simpa using hk
   refine ⟨cl,?_,a,fun x hx=>?_,d⟩
   ·rw [List.forIn_cons]
    simp only [hkf,Bool.false_eq_true,if_false,pure_bind];exact e
   ·rcases List.mem_cons.mp hx with q | q
    ·exact absurd (congrArg Prod.snd q).symm hk
    ·exact b x q
theorem Qr (env:Env) (scope:Scope) (h:∀ x,(x,NameKind.free)∈scope.names->∃ c,env.cells.lookup x=some c) :
  ∃ cl,closureFor scope env=pure cl/\(∀ x c,cl.lookup x=some c->env.cells.lookup x=some c)/\(∀ x,(x,NameKind.free)∈scope.names->∃ c,cl.lookup x=some c):=by
 obtain ⟨cl,e,a,b,_⟩:=Vh env scope.names [] h;refine ⟨cl,?_,fun x c hx=>(a x c hx).elim id (fun z=>by simp at z),b⟩;unfold closureFor;simp only [bind_pure];exact e
def bZ (X:Cx) (scope:Scope) (N':List Str) (cl:List (Str×Addr)) (C:Addr) (s₀:Shared) (H₀:Hp) (fp:List Addr) (pn:List (Addr×Obj)):Cx :=
 { X with N:=N',s₀:=s₀,H₀:=H₀,env:=compEnvC scope cl C X.env,outer:=X.stack,ex:=fp,fn:=fun _=>false,pn:=pn,xe:=fun _ _=>False }
inductive dZ (X:Cx) (scope:Scope):List (Option Nat)->List Str->Prop
 | nil:dZ X scope [] []
 | own {x src N'}:dZ X scope src N'->dZ X scope (none::src) (x::N')
 | cap {x i src N'}:X.N[i]?=some x->scope.names.lookup x=some NameKind.free->(X.env.scope.names.lookup x=some NameKind.cell\/X.env.scope.names.lookup x=some NameKind.free)->dZ X scope src N'->dZ X scope (some i::src) (x::N')
def YI (src:List (Option Nat)) (σ:St):St:=src.map fun o=>match o with | none=>none | some i=>σ.getD i none
theorem dZ.length {X:Cx} {scope:Scope}:∀ {src:List (Option Nat)} {N':List Str},dZ X scope src N'->src.length=N'.length
 | _,_,.nil=>rfl
 | _,_,.own h=>congrArg (·+1) h.length
 | _,_,.cap _ _ _ h=>congrArg (·+1) h.length
theorem dZ.get {X:Cx} {scope:Scope} {σ:St}:∀ {src:List (Option Nat)} {N':List Str},dZ X scope src N'->∀ (j:Nat) (x:Str) (v:V),N'[j]?=some x->(YI src σ)[j]?=some (some v) ->
  ∃ i:Nat,X.N[i]?=some x/\σ[i]?=some (some v)/\scope.names.lookup x=some NameKind.free/\(X.env.scope.names.lookup x=some NameKind.cell\/X.env.scope.names.lookup x=some NameKind.free)
 | _,_,.nil,j,x,v,h,_=>by simp at h
 | _,_,.own h,0,x,v,_,e=>by simp [YI] at e
 | _,_,.own h,j+1,x,v,e1,e2=>h.get j x v (by simpa using e1) (by simpa [YI] using e2)
 | _,_,.cap (x:=y) (i:=i) hN hf hk h,0,x,v,e1,e2=>by
  have ex:y=x:=by simpa using e1
  subst ex;refine ⟨i,hN,?_,hf,hk⟩;simp only [YI,List.map_cons,List.getElem?_cons_zero,Option.some.injEq] at e2;rw [List.getD_eq_getElem?_getD] at e2
  cases q:σ[i]? with
  | none=>rw [q] at e2;simp at e2
  | some o=>rw [q] at e2;simp at e2;rw [e2]
 | _,_,.cap hN hf hk h,j+1,x,v,e1,e2=>h.get j x v (by simpa using e1) (by simpa [YI] using e2)
theorem VM (env:Env) (x:Str):∀ {names:List (Str×NameKind)},
  (names.map fun (n,k)=>if (k==NameKind.free&&env.scope.kind == .function&&env.kindOf n==some .cell) then (n,NameKind.cell) else (n,k)).lookup x =
   (names.lookup x).map fun k=>if (k==NameKind.free&&env.scope.kind == .function&&env.kindOf x==some .cell) then NameKind.cell else k
 | []=>rfl
 | (n,k)::r=>by
  have ih:=@VM env x r;rw [List.map_cons];dsimp only;by_cases hx:(x==n)=true
  ·have e:x=n:=by simpa using hx
   subst e;by_cases hc:(k==NameKind.free&&env.scope.kind == .function&&env.kindOf x==some .cell)=true
   ·rw [if_pos hc,List.lookup_cons,List.lookup_cons,hx]
    simp only [Option.map_some];rw [if_pos hc]
   ·rw [if_neg hc,List.lookup_cons,List.lookup_cons,hx]
    simp only [Option.map_some];rw [if_neg hc]
  ·have hx':=Bool.eq_false_iff.mpr hx
   by_cases hc:(k==NameKind.free&&env.scope.kind == .function&&env.kindOf n==some .cell)=true
   ·rw [if_pos hc];simp only [List.lookup_cons,hx'];exact ih
   ·rw [if_neg hc];simp only [List.lookup_cons,hx'];exact ih
theorem Vx {names:List (Str×NameKind)} {x:Str} (h:names.lookup x=some NameKind.free):(x,NameKind.free)∈names:=PySem.mem_of_lookup h
section
variable {X:Cx}
theorem SM {scope:Scope} {N':List Str} {src:List (Option Nat)} {cl:List (Str×Addr)} {pins:List (Addr×Obj)} {σ:St} {H:Hp} {s s':Shared} {h':Heap} {tk:Nat} {fp:List Addr} {m:Str->Option Value}
  (hk:scope.kind = .function) (hcell:∀ y∈scope.names,y.2 ≠ .cell) (hcap:dZ X scope src N')
  (a:∀ x c,cl.lookup x=some c->X.env.cells.lookup x=some c) (b:∀ x,(x,NameKind.free)∈scope.names->∃ c,cl.lookup x=some c)
  (I:Inv X pins σ H s) (hf:∀ b∈fp,Wm X pins H b) (hfl:∀ b∈fp,b<s.heap.objs.size) (es':s'={ s with heap:=h',toks:=tk })
  (keep:∀ b o,s.heap.get? b=some o->h'.get? b=some o) (hn:h'.Ns s.heap.objs.size m) :
  Inv (bZ X scope N' cl s.heap.objs.size s H fp (X.pn++pins)) [] (YI src σ) H s':=by
 subst es';have kindOf:∀ x,(compEnvC scope cl s.heap.objs.size X.env).kindOf x=(scope.names.lookup x).map fun k=>if (k==NameKind.free&&X.env.scope.kind == .function&&X.env.kindOf x==some .cell) then NameKind.cell else k:=fun x=>VM X.env x
 have freeOf:∀ x,((compEnvC scope cl s.heap.objs.size X.env).kindOf x=some .cell\/(compEnvC scope cl s.heap.objs.size X.env).kindOf x=some .free)->scope.names.lookup x=some .free:=fun x h=>by
  rw [kindOf] at h
  cases q:scope.names.lookup x with
  | none=>rw [q] at h;simp at h
  | some k =>
   rw [q] at h
   by_cases hkf:k=NameKind.free
   ·rw [hkf]
   ·have N8:(k==NameKind.free)=false:=by simpa using hkf
    simp only [Option.map_some,N8,Bool.false_and,Bool.false_eq_true,if_false] at h;rcases h with h | h
    ·exact absurd (Option.some.inj h) (hcell _ (PySem.mem_of_lookup q))
    ·exact absurd (Option.some.inj h) hkf
 refine ⟨⟨I.ok.mod,hk,I.ok.glob,I.ok.blt,Nat.le_refl _,fun x y c h1 h2=>I.ok.inj x y c (a x c h1) (a y c h2),fun x hx=>b x (Vx (freeOf x hx)),(fun x c z _=>nomatch z),I.ok.hd,I.ok.frames,.inl rfl,fun b' hb=>?_,I.bs,Nat.le_trans I.ok.gO I.sz,fun b' o e hb=>?_,fun b' hb z=>?_,I.stack,I.mz⟩,
  rfl,I.bare,Un.kept keep,⟨m,hn,fun j x v h1 h2 h3=>?_⟩,fun x c h=>?_,I.hok.fresh (Nat.le_refl _),fun x c h=>I.cP x c (a x c h),fun p hp=>?_,I.hok.kept keep,?_⟩
 ·obtain ⟨f0,f1,f2,f3,f4,f5⟩:=hf b' hb
  exact ⟨Nat.ne_of_lt (hfl b' hb),fun x c h=>f4 x c (a x c h)⟩
 ·obtain ⟨f0,f1,f2,f3,f4,f5⟩:=hf b' hb
  rcases f3 with z | z
  ·exact I.ok.jh b' o e z
  ·exact absurd (Nat.lt_of_lt_of_le (Heap.lt_size e) (Nat.le_trans I.ok.gO z)) (Nat.lt_irrefl _)
 ·obtain ⟨f0,f1,f2,f3,f4,f5⟩:=hf b' hb
  rcases List.mem_cons.mp (I.fj b' z) with e | e
  ·exact f1 e
  ·exact f2 e
 ·obtain ⟨i,e1,e2,e3,e4⟩:=hcap.get j x v h1 h2
  obtain ⟨m0,hn0,hl⟩:=I.loc;obtain ⟨u,r,l⟩:=hl i x v e1 e2 (by rcases e4 with e4 | e4;exact .inr (.inl e4);exact .inr (.inr e4));refine ⟨u,r,?_⟩;rcases l with ⟨l,_⟩ | ⟨k,c,e,z⟩
  ·have l':X.env.scope.names.lookup x=some NameKind.local:=l
   rcases e4 with e4 | e4<;>(rw [e4] at l';cases l')
  ·refine .inr ⟨?_,?_⟩
   ·show (compEnvC scope cl s.heap.objs.size X.env).kindOf x=some .cell\/(compEnvC scope cl s.heap.objs.size X.env).kindOf x=some .free
    rw [kindOf,e3];simp only [Option.map_some]
    split
    ·exact .inl rfl
    ·exact .inr rfl
   ·obtain ⟨c',hc'⟩:=b x (Vx e3)
    have:=a x c' hc';rw [e] at this
    cases this
    obtain ⟨o,ho,hd⟩:=z;exact ⟨c,hc',o,keep _ _ ho,hd⟩
 ·obtain ⟨v,o,ho,hd⟩:=I.cell x c (a x c h)
  exact ⟨v,o,keep _ _ ho,hd⟩
 ·have hp':p∈X.pn++pins:=by simpa [bZ] using hp
  obtain ⟨e,n,ne,nf,d⟩:=I.pin p hp';refine ⟨keep _ _ e,n,Nat.ne_of_lt (Heap.lt_size e),fun z=>?_,d⟩;rcases List.mem_cons.mp (I.fj p.1 z) with q | q
  ·exact ne q
  ·exact nf q
 ·show (YI src σ).length=N'.length
  rw [<- hcap.length];simp [YI]
end
section
variable {prog:Program} {w:World} {A:Around} {R:Result->Shared->Prop} {s:Shared}
theorem SN {elt tg iter:Expr} {ifs:List Expr} {scope:Scope} {pos:Pos} {it acc:Value} {env:Env} (J:Nat->Shared->Prop)
  (turn:∀ n s,J n s->wpAny (model prog w) A (pyNext it) (fun r s₁=>match r with
    | none=>R (.ok .next) s₁
    | some v=>wpAny (model prog w) A (letOwnedTupleGo tg it v) (fun _ z₁=>wpAny (model prog w) A (assign tg env v) (fun _ s₂ =>
      wpAny (model prog w) A (forIn ifs true fun c r=>if r=true then do let ok <- isTrue c env (eval c env);pure (ForInStep.yield ok) else pure (ForInStep.yield r))
       (fun ok s₃=>if ok=true then wpAny (model prog w) A (eval elt env) (fun x s₄=>wpAny (model prog w) A (call (.builtin "list.append") [acc,x]) (fun _ s₅=>∃ m,m<n/\J m s₅) (fun _ _=>False) s₄) (notedBy (model prog w) A env fun e s'=>R (.error e) s') s₃
        else ∃ m,m<n/\J m s₃) (fun _ _=>False) s₂) (fun _ _=>False) z₁) (fun _ _=>False) s₁) (fun _ _=>False) s)
  (n:Nat) (h:J n s):codeAny (model prog w) A (.compLoop (.ListComp elt [⟨tg,iter,ifs,0⟩] scope pos) 0 it acc env) R s:=by
 refine codeAny_loop rfl J (fun n s hJ=>?_) n h
 show wpAny _ A (Sem.onRaise (compTurn (.ListComp elt [⟨tg,iter,ifs,0⟩] scope pos) 0 it acc env) (fun x=>do noteFrame x env;theTreesLotGoes x)) _ _ s
 refine wpAny_noted ?_;rw [compTurn_list];have no:∀ {E:Value->Shared->Prop},∀ (e:Value) (s':Shared),False->E e s':=fun _ _ f=>f.elim
 refine wpAny_bind (wpAny_standAt (wpAny_bind (wpAny_mono (turn n s hJ) (fun r s₁ h₁=>?_) no)))
 cases r with
 | none=>exact wpAny_pure h₁
 | some v =>
  refine wpAny_bind (wpAny_mono h₁ (fun _ z₁ hz=>?_) no);refine wpAny_bind (wpAny_mono hz (fun _ s₂ h₂=>wpAny_bind (wpAny_mono h₂ (fun ok s₃ h₃=>?_) no)) no)
  cases ok with
  | false=>exact wpAny_pure ⟨rfl,h₃⟩
  | true =>
   exact wpAny_bind (wpAny_bind (wpAny_mono h₃ (fun x s₄ h₄=>wpAny_bind (wpAny_mono h₄ (fun _ s₅ h₅=>wpAny_pure (wpAny_pure ⟨rfl,h₅⟩)) no)) fun _ _ z=>z))
end
def pI (X:Cx) (ifs:List Expr) (t:TT):Prop :=
 ∀ (pins:List (Addr×Obj)) (s:Shared) (σ:St) (H:Hp) (Q:Bool->Hp->Prop),Inv X pins σ H s->t σ H Q ->
  wpAny (model X.prog X.w) X.A (forIn ifs true fun c r=>if r=true then do let ok <- isTrue c X.env (eval c X.env);pure (ForInStep.yield ok) else pure (ForInStep.yield r)) (TP X pins σ Q) X.xe s
def Wa:TT:=fun _ H Q=>Q true H
theorem Xc {X:Cx}:pI X [] Wa:=fun _ _ _ H _ I h=>wpAny_tests_nil ⟨H,I,h⟩
theorem SQ {X:Cx} {c:Expr} {t:TT} (h:PT X c t):pI X [c] t:=fun pins s σ H Q I q=>wpAny_tests_one (h pins s σ H Q I q)
def LC (src:List (Option Nat)) (J:It) (g:TG) (tt:TT) (te:TE) (σ:St) (H1:Hp) (Q:VK) (D:Addr):Prop:=∃ W:Nat->Nat->List V->St->Hp->Prop,(∃ m,W 0 m [] (YI src σ) (upd H1 D (.lst []))) /\
 ∀ i m ys σ' H2,W i m ys σ' H2->H2 D=some (.lst ys)/\((J.stop i H2/\Q (.ref D) H2)\/(J.go i H2/\∃ N:List V->St->Hp->Prop,(∀ ys' σ3 H3,N ys' σ3 H3->∃ m',m'<m/\W (i+1) m' ys' σ3 H3)/\∀ x H3,J.mD i H2 x H3->g x σ' H3 fun σ2 H4=>tt σ2 H4 fun b H5 =>
  if b=true then te σ2 H5 fun y H6=>H6 D=some (.lst ys)/\ys.length<sizeLine/\N (ys++[y]) σ2 (upd H6 D (.lst (ys++[y])))
  else N ys σ2 H5))
def d7 (src:List (Option Nat)) (wi:TI) (g:TG) (tt:TT) (te:TE):TE:=fun σ H Q=>wi σ H fun J H1=>∀ D,H1 D=none->LC src J g tt te σ H1 Q D
section
variable {X:Cx}
theorem GP {elt tg iter:Expr} {ifs:List Expr} {scope:Scope} {pos:Pos} {src:List (Option Nat)} {N':List Str} {g:TG} {tt:TT} {te:TE} {cl:List (Str×Addr)} {pins:List (Addr×Obj)} {σ:St} {Q:VK} {itv:Value} {s2:Shared} {Po:Value->Addr->Result->Shared->Prop} {Z:Addr->Shared->Hp->List Addr->List (Addr×Obj)->Value->Shared->Prop}
  (hcap:dZ X scope src N') (hc:X.calm=true) (hg:∀ C s₀ H₀ fp pn,PG (bZ X scope N' cl C s₀ H₀ fp pn) tg g) (ht:∀ C s₀ H₀ fp pn,pI (bZ X scope N' cl C s₀ H₀ fp pn) ifs tt)
  (he:∀ C s₀ H₀ fp pn,PE ((bZ X scope N' cl C s₀ H₀ fp pn).wish (Z C s₀ H₀ fp pn)) elt te) (hk:scope.kind = .function) (hcell:∀ y∈scope.names,y.2 ≠ .cell) (a:∀ x c,cl.lookup x=some c->X.env.cells.lookup x=some c) (b:∀ x,(x,NameKind.free)∈scope.names->∃ c,cl.lookup x=some c)
  (h2:PIE X pins σ tg (fun J H1=>∀ D,H1 D=none->LC src J g tt te σ H1 Q D) itv s2)
  (done:∀ (D C:Addr) (s6:Shared) (H5:Hp),(∀ h',Heap.SameBut C s6.heap h'->Inv X pins σ H5 { s6 with heap:=h' })->(∃ m,s6.heap.Ns C m)->H5 C=none->(∀ {H':Hp},H' C=none->Wm X pins H' C)->Q (.ref D) H5->Po (.ref D) C (.ok .next) s6)
  (gone:∀ (D:Addr) (s3:Shared) (H3:Hp) (fp:List Addr),Inv X pins σ H3 s3->(∀ {H':Hp} {s':Shared} {σ':St} {eH:List (Addr×Obj)},Inv (bZ X scope N' cl s3.heap.objs.size s3 H3 fp (X.pn++pins)) eH σ' H' s'->∀ h',Heap.SameBut s3.heap.objs.size s'.heap h'->Inv X pins σ H' { s' with heap:=h' }) ->
   ∀ e s',Z s3.heap.objs.size s3 H3 fp (X.pn++pins) e s'->notedBy (model X.prog X.w) X.A (compEnvC scope cl s3.heap.objs.size X.env) (fun e s'=>Po (.ref D) s3.heap.objs.size (.error e) s') e s') :
  wpAny (model X.prog X.w) X.A (newList []) (fun acc s₃=>wpAny (model X.prog X.w) X.A (newFunctionEnv scope X.env.globals cl [] X.env.qual none Value.none (some X.env)) (fun cenv s₄ =>
   codeAny (model X.prog X.w) X.A (.compStart (.ListComp elt [⟨tg,iter,ifs,0⟩] scope pos) 0 itv acc { cenv with scope:=relabel scope X.env }) (Po acc cenv.locals) s₄) X.xe s₃) X.xe s2:=by
 obtain ⟨it,fp,tn,J,H2,e,I2,T,st2,f2,q⟩:=h2;subst e;have hD:H2 s2.heap.objs.size=none:=I2.hok.fresh (Nat.le_refl _);obtain ⟨W,⟨m0,w0⟩,turn⟩:=q s2.heap.objs.size hD;have I3:=I2.sy (t':=s2.toks) (ys:=[]) (its:=[]) .nil (Nat.zero_le _);have SX:∀ b∈fp,b<s2.heap.objs.size:=fun b hb=>by
  obtain ⟨o,e,_⟩:=T.obj _ _ st2 b hb;exact Heap.lt_size e
 refine wpAny_newObj_type ?_;generalize GQ:({ s2 with heap:=s2.heap.push { cls := .type "list",dict:=none,data := .seq ([]:List Value).toArray } }:Shared)=s3;have pJ:Inv X pins σ (upd H2 s2.heap.objs.size (.lst [])) s3:=GQ▸I3
 have Ec:∀ b o,s2.heap.get? b=some o->s3.heap.get? b=some o:=fun b o e=>by rw [<- GQ];exact Heap.get?_push_of_some _ e
 have st3:tn 0 s3.heap:=T.keep _ _ _ st2 fun b _ o e=>Ec b o e
 have GR:∀ b∈fp,b<s3.heap.objs.size:=fun b hb=>by
  obtain ⟨o,e,_⟩:=T.obj _ _ st3 b hb;exact Heap.lt_size e
 have f3:∀ b∈fp,Wm X pins (upd H2 s2.heap.objs.size (.lst [])) b:=fun b hb=>⟨by rw [Yg (Nat.ne_of_lt (SX b hb))];exact (f2 b hb).1,(f2 b hb).2⟩
 generalize eD:s2.heap.objs.size=D at *;generalize eH3:upd H2 D (.lst [])=H3 at *;refine wpAny_newFunctionEnv hcell (by intro y hy;simp at hy) (fun h₁ hns₁ hsb₁=>?_) hk;have nG:∀ b o,s3.heap.get? b=some o->h₁.get? b=some o:=fun b o e=>hsb₁.extBut b o (Nat.ne_of_lt (Heap.lt_size e)) (Heap.get?_push_of_some _ e)
 have I4:=SM (N':=N') (src:=src) (tk:=s3.toks+([]:List (Str×Value)).length) hk hcell hcap a b pJ f3 GR rfl nG hns₁;have stat:∀ {H':Hp},(∀ b∈fp,H' b=none)->∀ b∈fp,Wm (bZ X scope N' cl s3.heap.objs.size s3 H3 fp (X.pn++pins)) [] H' b:=fun hn b' hb=>by
  obtain ⟨f0,f1,fs,fe,f4,f5⟩:=f3 b' hb;refine ⟨hn b' hb,Nat.ne_of_lt (GR b' hb),fun z=>?_,.inl hb,fun x c h=>f4 x c (a x c h),fun p hp=>f5 p (by simpa [bZ] using hp)⟩;rcases List.mem_cons.mp (pJ.fj b' z) with e | e
  ·exact f1 e
  ·exact fs e
 have fin:∀ {H':Hp} {s':Shared} {σ':St} {eH:List (Addr×Obj)},Inv (bZ X scope N' cl s3.heap.objs.size s3 H3 fp (X.pn++pins)) eH σ' H' s'->∀ h',Heap.SameBut s3.heap.objs.size s'.heap h'->Inv X pins σ H' { s' with heap:=h' }:=fun {H' s' σ' eH} J' h' sb=>by
  have same:∀ b o,b≠s3.heap.objs.size->s'.heap.get? b=some o->h'.get? b=some o:=fun b o hb e=>sb.extBut b o hb e
  have u:Un (frs X.stack) fp H3 H' s3.heap s'.heap:=J'.base;refine pJ.call' (s':={ s' with heap:=h' }) (ch:=fp) J'.os ⟨fun b o e n hb hx=>?_,fun b o e n hb hx=>?_,u.free,fun b o e hx=>?_,u.tups,u.dj,u.dW⟩ (fun b o e=>?_) J'.bare fun b hb=>?_
  ·exact same b o (Nat.ne_of_lt (Heap.lt_size e)) (u.keep b o e n hb hx)
  ·obtain ⟨sl,z⟩:=u.slot b o e n hb hx
   exact ⟨sl,same b _ (Nat.ne_of_lt (Heap.lt_size e)) z⟩
  ·obtain ⟨o',z⟩:=u.there b o e hx
   exact ⟨o',same b o' (Nat.ne_of_lt (Heap.lt_size e)) z⟩
  ·have nC:∀ c v,H' c=some v->c≠s3.heap.objs.size:=fun c v z q=>by
    have:=J'.free;rw [show (bZ X scope N' cl s3.heap.objs.size s3 H3 fp (X.pn++pins)).env.locals=s3.heap.objs.size from rfl,<- q,z] at this
    cases this
   refine (J'.hok b o e).stay (fun c v hc q=>same c v ?_ q) (fun _ q=>q) fun _ _ q=>q
   rcases hc with z | z
   ·rw [z];exact nC b o e
   ·exact nC c _ z
  ·obtain ⟨f0,f1,fs,fe,f4,f5⟩:=f3 b hb
   exact ⟨fe,f1,f4,f5⟩
 have loop:codeAny (model X.prog X.w) X.A (.compLoop (.ListComp elt [⟨tg,iter,ifs,0⟩] scope pos) 0 (.ref it) (.ref D) (compEnvC scope cl s3.heap.objs.size X.env))
   (Po (.ref D) s3.heap.objs.size) { s3 with heap:=h₁,toks:=s3.toks+([]:List (Str×Value)).length }:=by
  refine SN (fun n s'=>∃ i ys σ' H',Inv (bZ X scope N' cl s3.heap.objs.size s3 H3 fp (X.pn++pins)) [] σ' H' s'/\tn i s'.heap/\(∀ b∈fp,H' b=none)/\W i n ys σ' H') ?_ m0 ⟨0,[],YI src σ,H3,I4,T.keep _ _ _ st3 fun b _ o e=>nG b o e,fun b hb=>(f3 b hb).1,w0⟩;rintro n s5 ⟨i,ys,ur,H5,I5,mG,tZ,w5⟩;obtain ⟨hDs,stop | go⟩:=turn i n ys ur H5 w5
  ·obtain ⟨stop,qn⟩:=stop
   refine aG (T.done (bZ X scope N' cl s3.heap.objs.size s3 H3 fp (X.pn++pins)) rfl rfl rfl hc i [] s5 ur H5 _ I5 (stat tZ) mG stop) fun r s6 ⟨hr,I6⟩=>?_
   subst hr;obtain ⟨m,hn,_⟩:=id I6.loc;exact done D _ s6 H5 (fun h' sb=>fin I6 h' sb) ⟨m,hn⟩ I6.free (fun z=>pJ.fC (Nat.le_refl _) z) qn
  ·obtain ⟨go,N,hN,step⟩:=go
   refine aG (T.item (bZ X scope N' cl s3.heap.objs.size s3 H3 fp (X.pn++pins)) rfl rfl rfl hc i [] s5 ur H5 _ I5 (stat tZ) mG go) fun r s6 ⟨u,hr,h6⟩=>?_
   subst hr;refine aG h6 fun _ s7 ⟨x,H7,I7,r7,y7,wV,S5⟩=>?_
   have S6:=I7.pinned (stat S5) (T.obj _ _ wV);have again:∀ {s8:Shared} {iG:St} {H8:Hp} {ys':List V},Inv (bZ X scope N' cl s3.heap.objs.size s3 H3 fp (X.pn++pins)) ([]++Um fp s7.heap) iG H8 s8->(∃ m',m'<n/\W (i+1) m' ys' iG H8) ->
     ∃ m,m<n/\∃ i ys σ' H',Inv (bZ X scope N' cl s3.heap.objs.size s3 H3 fp (X.pn++pins)) [] σ' H' s8/\tn i s8.heap/\(∀ b∈fp,H' b=none)/\W i m ys σ' H':=fun {s8 iG H8 ys'} I8 ⟨m',hm,w8⟩=>by
    refine ⟨m',hm,i+1,ys',iG,H8,I8.dw,T.keep _ _ _ wV fun b hb o e=>(I8.pin (b,o) (List.mem_append_right _ (List.mem_append_right _ (Wn hb e)))).1,fun b hb=>?_,w8⟩;obtain ⟨o,e,d⟩:=T.obj _ _ wV b hb;exact (I8.pin (b,o) (List.mem_append_right _ (List.mem_append_right _ (Wn hb e)))).2.1
   refine aG (hg _ s3 H3 fp _ _ s7 ur H7 x u _ S6 r7 (step x H7 y7)) fun _ s8 ⟨iG,H8,I8,q8⟩=>?_
   refine aG (ht _ s3 H3 fp _ _ s8 iG H8 _ I8 q8) fun ok s9 ⟨H9,I9,q9⟩=>?_
   cases ok with
   | false=>exact again I9 (hN _ _ _ q9)
   | true =>
    rw [if_pos rfl];refine wpAny_mono (he _ s3 H3 fp _ _ s9 iG H9 _ (I9.wish _) q9) (fun y bN ⟨yv,uw,Oa,r10,S7⟩=>?_) (gone D s3 H3 fp pJ fin);have S8:=Oa.cC;obtain ⟨pK,hlen,w10⟩:=S7;refine aG (Xu (X:=bZ X scope N' cl s3.heap.objs.size s3 H3 fp (X.pn++pins)) _ bN iG uw (.ref D) [yv] (.ref D) [y] (fun _ H'=>H'=upd uw D (.lst (ys++[yv]))) S8 rfl (.cons r10 .nil) ⟨ys,pK,hlen,rfl⟩) fun _ mQ ⟨_,S9,Tc,_,Td⟩=>?_
    subst Td;exact again Tc (hN _ _ _ w10)
 exact codeAny_compStart_list loop (T.self _ 0 _ _ _ (T.keep _ _ _ st3 fun b _ o e=>nG b o e) loop)
theorem X2 {elt tg iter:Expr} {ifs:List Expr} {scope:Scope} {pos:Pos} {src:List (Option Nat)} {N':List Str} {wi:TI} {g:TG} {tt:TT} {te:TE} (hcap:dZ X scope src N') (hc:X.calm=true) (hi:PI X tg iter wi)
  (hg:∀ cl C s₀ H₀ fp pn,PG (bZ X scope N' cl C s₀ H₀ fp pn) tg g) (ht:∀ cl C s₀ H₀ fp pn,pI (bZ X scope N' cl C s₀ H₀ fp pn) ifs tt) (he:∀ cl C s₀ H₀ fp pn,PE (bZ X scope N' cl C s₀ H₀ fp pn) elt te)
  (hfree:∀ x,(x,NameKind.free)∈scope.names->X.env.scope.names.lookup x=some NameKind.cell\/X.env.scope.names.lookup x=some NameKind.free)
  (hk:scope.kind = .function) (hcell:∀ y∈scope.names,y.2 ≠ .cell) (hnames:∀ y∈scope.names,y.2 = .local->scope.names.lookup y.1=some .local)
  (hs:∀ x,foldedSetIterable iter X.env x=pure x):PE X (.ListComp elt [⟨tg,iter,ifs,0⟩] scope pos) (d7 src wi g tt te):=by
 intro pins s σ H Q I h;obtain ⟨cl,hcl,a,b⟩:=Qr X.env scope fun x hx=>I.ok.has x (hfree x hx)
 rw [eval_ListComp];refine wpAny_comprehension_free (use:=none) rfl hs hcl hk hnames (aG (hi pins s σ H _ I h) fun v s1 h1=>aG h1 fun itv s2 h2=>?_);exact GP (Po:=fun v C=>compPost (model X.prog X.w) X.A X.xe none (EP X pins σ Q) v C) (Z:=fun _ _ _ _ _ _ _=>False) hcap hc (hg cl) (ht cl) (he cl) hk hcell a b h2 (fun D C s6 H5 fi ⟨m,hn⟩ _ _ qn=>⟨m,hn,fun h' sb=>⟨.ref D,H5,fi h' sb,rfl,qn⟩⟩) fun _ _ _ _ _ _ _ _ z=>z.elim
end
section
variable {X:Cx} {tg:Expr}
def Wr (J:It) (P:Hp->Prop) (xs:List V):Prop:=∀ H,P H->∀ i,(∀ x,xs[i]?=some x->J.go i H/\∀ y H',J.mD i H y H'->H'=H/\y=x)/\(xs.length<=i->J.stop i H)
theorem Ut {K:W.Frag} {a:Addr} {xs:List V}:Wr (wu K a) (fun H=>au K H a xs) xs:=fun H hq i=>by
 refine ⟨fun x hx=>⟨⟨xs,x,hq,hx⟩,fun y H' ⟨e1,e2⟩=>⟨e1,?_⟩⟩,fun hi=>⟨xs,hq,hi⟩⟩;have:=e2 xs hq;rw [hx] at this
 exact (Option.some.inj this).symm
theorem Ws {K:W.Frag} {a:Addr} {xs:List V}:Wr (mF K a) (fun H=>ao K H a xs) xs:=fun H hq i=>by
 refine ⟨fun x hx=>⟨⟨xs,x,hq,hx⟩,fun y H' ⟨e1,e2⟩=>⟨e1,?_⟩⟩,fun hi=>⟨xs,hq,hi⟩⟩;have:=e2 xs hq;rw [hx] at this
 exact (Option.some.inj this).symm
theorem U6 {lo:Int} {n:Nat} {P:Hp->Prop}:Wr (tW lo n) P ((List.range n).map fun (i:Nat)=>V.int (lo+i)):=fun H hq i=>by
 refine ⟨fun x hx=>?_,fun hi=>by show n<=i;simpa using hi⟩;have hi:i<n:=by
  have:=(List.getElem?_eq_some_iff.mp hx).1;simpa using this
 refine ⟨hi,fun y H' ⟨e1,e2⟩=>⟨e1,?_⟩⟩;rw [List.getElem?_map,List.getElem?_range hi] at hx
 rw [e2];simpa using hx
theorem Wr.imp {J:It} {P P':Hp->Prop} {xs:List V} (h:Wr J P xs) (hp:∀ H,P' H->P H):Wr J P' xs:=fun H q=>h H (hp H q)
theorem GX {J:It} {P:Hp->Prop} {xs:List V} (hJ:Wr J P xs) {src:List (Option Nat)} {g:TG} {tt:TT} {te:TE} {σ:St} {H1:Hp} {Q:VK} {D:Addr} (Pv:Nat->List V->St->Hp->Prop)
  (h0:Pv 0 [] (YI src σ) (upd H1 D (.lst []))) (hP:∀ i ys σ' H',Pv i ys σ' H'->P H'/\H' D=some (.lst ys))
  (step:∀ i ys σ' H' x,xs[i]?=some x->Pv i ys σ' H'->g x σ' H' fun σ2 H4=>tt σ2 H4 fun b H5=>if b=true then te σ2 H5 fun y H6=>H6 D=some (.lst ys)/\ys.length<sizeLine/\Pv (i+1) (ys++[y]) σ2 (upd H6 D (.lst (ys++[y]))) else Pv (i+1) ys σ2 H5)
  (fin:∀ ys σ' H',Pv xs.length ys σ' H'->Q (.ref D) H') :
  LC src J g tt te σ H1 Q D:=by
 refine ⟨fun i m ys σ' H'=>m=xs.length - i/\i<=xs.length/\Pv i ys σ' H',⟨xs.length,by simp,Nat.zero_le _,h0⟩,?_⟩;rintro i m ys σ' H2 ⟨rfl,hi,p⟩;obtain ⟨hp,hD⟩:=hP i ys σ' H2 p;refine ⟨hD,?_⟩;by_cases hlt:i<xs.length
 ·obtain ⟨go,yl⟩:=(hJ H2 hp i).1 xs[i] (by simp [hlt])
  refine .inr ⟨go,fun ys' σ3 H3=>Pv (i+1) ys' σ3 H3,fun ys' σ3 H3 p'=>⟨xs.length - (i+1),by omega,rfl,hlt,p'⟩,fun x H3 y=>?_⟩;obtain ⟨e1,e2⟩:=yl x H3 y;subst e1 e2;exact step i ys σ' _ _ (by simp [hlt]) p
 ·have e:i=xs.length:=by omega
  subst e;exact .inl ⟨(hJ H2 hp _).2 (Nat.le_refl _),fin ys σ' H2 p⟩
theorem Yj.aj {H:Hp} {p:Addr} (h:H p=none) (o:HO):Yj H (upd H p o):=fun b u q=>by rw [Yg (Yt q h)];exact q
theorem Yj.cO {H H':Hp} {p:Addr} (h:H p=none) (e:Yj H H') (o:HO):Yj H (upd H' p o):=fun b u q=>by rw [Yg (Yt q h)];exact e b u q
theorem Yj.tup {K:W.Frag} {H H':Hp} {a:Addr} {xs:List V} (e:Yj H H') (h:au K H a xs):au K H' a xs:=by
 rcases h with (h | ⟨o,h⟩) | h
 ·exact .inl (.inl (e _ _ h))
 ·exact .inl (.inr ⟨o,e _ _ h⟩)
 ·exact .inr h
end
section
variable {X:Cx}
theorem GZ:∀ {bs:List Bool} {us:List Value},Yx (bs.map V.bl) us->LSm.BoolsAre us bs
 | [],_,h=>by rw [Yx.zero h];exact .nil
 | b::bs,us,h=>by
  have h':Yx (V.bl b::bs.map V.bl) us:=h
  cases h' with
  | cons r t=>cases (show _=Value.bool b from r);exact .cons b (GZ t)
theorem QP (hc:X.calm=true):X0 X (.builtin "all") (fun xs H Q=>∃ (p:Addr) (bs:List Bool),xs=[.ref p]/\ao X.K H p (bs.map V.bl)/\Q (.bl (bs.all id)) H):=by
 intro pins s σ H xs us Q I r h;obtain ⟨p,bs,rfl,hq,q⟩:=h;obtain ⟨u,rfl,rx⟩:=W1 r
 cases rx
 obtain ⟨its,r',pl,hz⟩:=I.list hq;have hb:=GZ r';have hl:=pl.isList;have hlt:p<s.heap.objs.size:=by obtain ⟨_,e,_⟩:=hl;exact Heap.lt_size e
 refine call_all_walk (wpAny_pyIter_list hl ?_);refine ⟨s.heap.objs.size,[s.heap.objs.size,p],[s.heap.objs.size],its.toArray.size,_,_,fun i=>(bs[i]?).getD true,rfl,Walks.list (A:=X.A.in1) (I.ok.hd hc) _ p (Nat.ne_of_lt hlt) its.toArray,
  ⟨⟨_,Heap.get?_push_size _ rfl,rfl,rfl⟩,hl.push _⟩,fun i v s' Q' E' hP hQ=>?_,fun h' tk hk=>?_⟩
 ·obtain ⟨b,e,rfl⟩:=hb.get i v (by simpa using hP)
  simp only [e,Option.getD_some] at hQ;exact wpAny_truthy_bool hQ
 ·have e:((List.range its.toArray.size).all fun i=>(bs[i]?).getD true)=bs.all id:=by
   rw [List.size_toArray,hb.length];exact LSm.range_all bs
  rw [e];exact ⟨.bl _,H,I.kept (t':=tk) (LSm.kept_iter hk),rfl,q⟩
def ux:V->Option Value
 | .ty n=>some (.type n)
 | .ref a=>some (.ref a)
 | _=>none
inductive Ob (K:W.Frag) (t cv:Value) (Q:Bool->Prop):Prop
 | mk (b:Bool) (h3:W.kitOne K t cv=some b) (q:Q b)
inductive Te (K:W.Frag) (H:Hp) (x c:V) (Q:Bool->Prop):Prop
 | mk (cv:Value) (h1:ux c=some cv) (t:Value) (h2:cN K H x t) (q:Ob K t cv Q)
def wW (K:W.Frag):List V->Hp->VK->Prop:=fun xs H Q=>k2 xs fun x c=>Te K H x c fun b=>Q (.bl b) H
theorem Y7:X0 X (.builtin "isinstance") (wW X.K):=by
 intro pins s σ H xs us Q I r h;obtain ⟨x,c,rfl,cv,ec,t,ty,b,e,q⟩:=rH h;obtain ⟨u,w',rfl,ru,mL⟩:=wI r;have ew:w'=cv:=by
  cases c with
  | ty n=>cases (show w'=Value.type n from mL);simpa [ux] using ec
  | ref a=>cases (show w'=Value.ref a from mL);simpa [ux] using ec
  | _=>simp [ux] at ec
 subst ew;exact Rx I ru ty e fun tk=>⟨.bl b,H,I.tok tk,rfl,q⟩
end
structure Sub (P:Program) (w:World) (i:Addr) (St:Nat->Heap->Prop) (Xa:Heap->(Nat->Option Value)->Prop):Prop where
 obj:∀ k h,St k h->∃ o,h.get? i=some o/\∀ v,o.data ≠ .cell v
 keep:∀ k h h',St k h->(∀ o,h.get? i=some o->h'.get? i=some o)->St k h'
 item:∀ (A:Around) (k:Nat) (s:Shared) (get:Nat->Option Value) (x:Value) (Q:Value->Shared->Prop) (E:Value->Shared->Prop),St k s.heap->Xa s.heap get->get k=some x ->
  (∀ h' tk,St (k+1) h'->Heap.SameBut i s.heap h'->Q x { s with heap:=h',toks:=tk })->wpAny (model P w) A (Builtin.SmallTypes.nextOf (.ref i)) Q E s
 fin:∀ (A:Around) (k:Nat) (s:Shared) (get:Nat->Option Value) (Q:Value->Shared->Prop) (E:Value->Shared->Prop),A.handled=none->St k s.heap->Xa s.heap get->get k=none ->
  (∀ h' e,Heap.ExtBut i s.heap h'->(∃ o,h'.get? e=some o/\o.cls = .type "StopIteration")->E (.ref e) { s with heap:=h' })->wpAny (model P w) A (Builtin.SmallTypes.nextOf (.ref i)) Q E s
section
variable {prog:Program} {w:World} {A:Around} {E:Value->Shared->Prop} {s:Shared}
theorem U4 {it t:Addr} {i:Nat} {items:Array Value} {x:Value} {Q:Value->Shared->Prop} (hit:s.heap.IsTupleIter it t i) (ht:s.heap.IsTuple t items) (hx:items[i]?=some x)
  (hQ:∀ h',h'.IsTupleIter it t (i+1)->Heap.SameBut it s.heap h'->Q x { s with heap:=h' }):wpAny (model prog w) A (Builtin.SmallTypes.nextOf (.ref it)) Q E s:=by
 obtain ⟨o,ho,hc,hd⟩:=id hit;obtain ⟨ol,hol,_,nl,hdl⟩:=ht;unfold Builtin.SmallTypes.nextOf;refine wpAny_bind (wpAny_callSpecial?_slot (name:=Str.ofString "__next__") hit.typeIs F.slot_tuple_iterator_next (wpAny_call_entry F.slot_tuple_iterator_next hit.typeIs F.entry_tuple_iterator_next ?_ (F.args_tuple_iterator_next_1 _)))
 show wpAny _ _ (field (.ref it) 0 >>= _) _ _ s
 refine wpAny_bind (wpAny_field ho hd (x := .ref t) rfl ?_)
 show wpAny _ _ (if (Value.ref t==Value.none)=true then _ else _) _ _ s
 rw [if_neg (show ¬ ((Value.ref t==Value.none)=true) from Bool.false_ne_true)]
 show wpAny _ _ (field (.ref it) 1 >>= _) _ _ s
 refine wpAny_bind (wpAny_field ho hd (x := .int i 0) rfl ?_)
 show wpAny _ _ (seqItems? (.ref t) >>= _) _ _ s
 refine wpAny_bind (wpAny_seqItems hol hdl ?_);simp only [Int.toNat_natCast,hx];refine wpAny_bind (wpAny_setField ho hd (by simp) (wpAny_pure ⟨x,rfl,wpAny_pure (hQ _ ?_ (Heap.SameBut.update ..))⟩));exact ⟨_,Heap.get?_update_self _ ho (Obj.isFreed_of_fields (Obj.data_mapFields hd _)),(Obj.cls_mapFields ..).trans hc,by rw [Obj.data_mapFields hd];simp [rawInt]⟩
theorem Qd {it t:Addr} {i:Nat} {items:Array Value} {Q:Value->Shared->Prop} (hh:A.handled=none) (hit:s.heap.IsTupleIter it t i) (ht:s.heap.IsTuple t items) (hx:items[i]?=none)
  (hE:∀ h' e,Heap.ExtBut it s.heap h'->(∃ o,h'.get? e=some o/\o.cls = .type "StopIteration")->E (.ref e) { s with heap:=h' }):wpAny (model prog w) A (Builtin.SmallTypes.nextOf (.ref it)) Q E s:=by
 obtain ⟨o,ho,hc,hd⟩:=id hit;obtain ⟨ol,hol,_,nl,hdl⟩:=ht;unfold Builtin.SmallTypes.nextOf;refine wpAny_bind (wpAny_callSpecial?_slot (name:=Str.ofString "__next__") hit.typeIs F.slot_tuple_iterator_next (wpAny_call_entry F.slot_tuple_iterator_next hit.typeIs F.entry_tuple_iterator_next ?_ (F.args_tuple_iterator_next_1 _)))
 show wpAny _ _ (field (.ref it) 0 >>= _) _ _ s
 refine wpAny_bind (wpAny_field ho hd (x := .ref t) rfl ?_)
 show wpAny _ _ (if (Value.ref t==Value.none)=true then _ else _) _ _ s
 rw [if_neg (show ¬ ((Value.ref t==Value.none)=true) from Bool.false_ne_true)]
 show wpAny _ _ (field (.ref it) 1 >>= _) _ _ s
 refine wpAny_bind (wpAny_field ho hd (x := .int i 0) rfl ?_)
 show wpAny _ _ (seqItems? (.ref t) >>= _) _ _ s
 refine wpAny_bind (wpAny_seqItems hol hdl ?_);simp only [Int.toNat_natCast,hx];refine wpAny_bind (wpAny_rule (wpAny_bind (wpAny_setField ho hd (by simp) ?_)))
 show wpAny _ _ (newExc (.type "StopIteration") [] >>= _) _ _ _
 refine wpAny_bind ?_;simp only [newExc,newTuple];refine wpAny_bind (wpAny_newObj_type ?_ (by size_fits));refine wpAny_bind (m:=firstArgMember _ _) (wpAny_of_eq (a:=Value.none) (by first | rfl | (simp only [firstArgMember];rfl)) ?_);refine wpAny_newObj_type ?_ (by size_fits);simp only [raiseNew];refine wpAny_bind (wpAny_handled ?_)
 first | rw [show A.in1.handled=none from hh] | rw [hh]
 refine wpAny_bind (wpAny_pure (wpAny_throw ?_));exact hE _ _ (((Heap.SameBut.update ..).extBut.push _).push _) ⟨_,Heap.get?_push_size _ rfl,rfl⟩
end
theorem XJ {P:Program} {w:World} (i t:Addr):Sub P w i (fun k h=>h.IsTupleIter i t k) (fun h get=>∃ items:Array Value,h.IsTuple t items/\∀ k,get k=items[k]?) where
 obj:=fun k h ⟨o,e,c,d⟩=>⟨o,e,fun v z=>by rw [d] at z;cases z⟩
 keep:=fun k h h' st q=>st.at q
 item:=fun A k s get x Q E st ⟨items,ht,hg⟩ hx hQ=>U4 st ht ((hg k).symm.trans hx) fun h' st' sb=>hQ h' s.toks st' sb
 fin:=fun A k s get Q E hh st ⟨items,ht,hg⟩ hx hE=>Qd hh st ht ((hg k).symm.trans hx) hE
structure cD (z TI TO i1 i2:Addr):Prop where
 a:TI≠z
 b:TO≠z
 c:i1≠z
 d:i2≠z
 e:TI≠TO
 f:TI≠i1
 g:TI≠i2
 h:TO≠i1
 i:TO≠i2
 j:i1≠i2
section
variable {prog:Program} {w:World} {A:Around} {E:Value->Shared->Prop} {s:Shared} {z TI TO i1 i2:Addr} {S1 S2:Nat->Heap->Prop} {R1 R2:Heap->(Nat->Option Value)->Prop} {g1 g2:Nat->Option Value} {k:Nat} {a b:Value}
theorem Tf {x y:Value} {Q:Option Value->Shared->Prop} (D:cD z TI TO i1 i2) (U1:Sub prog w i1 S1 R1) (U2:Sub prog w i2 S2 R2)
  (k1:∀ h h' g,R1 h g->(∀ c o,c≠z->c≠TO->c≠i1->c≠i2->h.get? c=some o->h'.get? c=some o)->R1 h' g) (k2:∀ h h' g,R2 h g->(∀ c o,c≠z->c≠TO->c≠i1->c≠i2->h.get? c=some o->h'.get? c=some o)->R2 h' g)
  (hz:IsZip s.heap z TI TO .none) (hTI:IsPair s.heap TI (.ref i1) (.ref i2)) (hTO:IsPair s.heap TO a b) (h1:S1 k s.heap) (h2:S2 k s.heap) (r1:R1 s.heap g1) (r2:R2 s.heap g2) (hx:g1 k=some x) (hy:g2 k=some y)
  (hQ:∀ h' tk,IsZip h' z TI TO (rawInt s.heap.objs.size)->IsPair h' TO x y->S1 (k+1) h'->S2 (k+1) h'->IsPair h' s.heap.objs.size x y->h'.objs.size=s.heap.objs.size+1 ->
   (∀ c o,c≠z->c≠TO->c≠i1->c≠i2->s.heap.get? c=some o->h'.get? c=some o)->Q (some (.ref s.heap.objs.size)) { s with heap:=h',toks:=tk }) :
  wpAny (model prog w) A (pyNext (.ref z)) Q E s:=by
 have hT:s.TypeIs (.ref z) "zip":=⟨_,hz,rfl⟩;unfold pyNext;refine wpAny_bind (wpAny_attempt (wpAny_callSpecial?_slot (name:=Str.ofString "__next__") hT F.slot_zip_next (wpAny_call_entry F.slot_zip_next hT F.entry_zip_next ?_ (F.args_zip_next_1 _))))
 show wpAny _ _ (field (.ref z) 2 >>= _) _ _ _
 refine wpAny_bind (wpAny_field hz rfl (x := .bool false) rfl ?_)
 show wpAny _ _ (field (.ref z) 3 >>= _) _ _ _
 refine wpAny_bind (wpAny_field hz rfl (x := .ref TI) rfl ?_);refine wpAny_bind (wpAny_seqItems hTI rfl ?_)
 show wpAny _ _ (Builtin.SmallTypes.ownedTupleIsFree (.ref z) >>= _) _ _ _
 refine wpAny_bind ?_;unfold Builtin.SmallTypes.ownedTupleIsFree;refine wpAny_bind (wpAny_field hz rfl (x := .none) rfl (wpAny_pure ?_));simp only [if_true];refine wpAny_bind (wpAny_rule ?_);refine wpAny_bind (wpAny_field hz rfl (x := .ref TO) rfl ?_);refine wpAny_bind (wpAny_setField_rec hz (by simp) fun h₁ hz₁ hs₁=>?_)
 replace hz₁:IsZip h₁ z TI TO .ellipsis:=hz₁
 refine wpAny_bind ?_;simp only [List.zipIdx_cons,List.zipIdx_nil,List.forIn_cons,List.forIn_nil];refine wpAny_bind (wpAny_bind (wpAny_onRaise ?_))
 show wpAny _ _ (Builtin.SmallTypes.nextOf (.ref i1) >>= _) _ _ _
 have jd:S1 k h₁:=U1.keep _ _ _ h1 fun o e=>hs₁.extBut _ _ D.c e
 have je:R1 h₁ g1:=k1 _ _ _ r1 fun c o c1 _ _ _ e=>hs₁.extBut _ _ c1 e
 refine wpAny_bind (U1.item _ k { s with heap:=h₁ } g1 x _ _ jd je hx fun h₂ tk₂ jf hs₂=>wpAny_pure ?_);have hTO₂:IsPair h₂ TO a b:=hs₂.extBut _ _ D.h (hs₁.extBut _ _ D.b hTO);refine wpAny_bind (wpAny_seqItems hTO₂ rfl ?_);refine wpAny_bind (wpAny_updateSeq_pair hTO₂ fun h₃ hTO₃ hs₃=>?_)
 replace hTO₃:IsPair h₃ TO x b:=hTO₃
 refine wpAny_bind (wpAny_letGo (wpAny_pure ?_));refine wpAny_bind (wpAny_bind (wpAny_onRaise ?_))
 show wpAny _ _ (Builtin.SmallTypes.nextOf (.ref i2) >>= _) _ _ _
 have gP:∀ c o,c≠z->c≠TO->c≠i1->c≠i2->s.heap.get? c=some o->h₃.get? c=some o:=fun c o c1 c2 c3 c4 e=>hs₃.extBut _ _ c2 (hs₂.extBut _ _ c3 (hs₁.extBut _ _ c1 e))
 have nH:S2 k h₃:=U2.keep _ _ _ h2 fun o e=>hs₃.extBut _ _ D.i.symm (hs₂.extBut _ _ D.j.symm (hs₁.extBut _ _ D.d e))
 refine wpAny_bind (U2.item _ k { s with heap:=h₃,toks:=tk₂ } g2 y _ _ nH (k2 _ _ _ r2 gP) hy fun h₄ tk₄ nJ hs₄=>wpAny_pure ?_);have hTO₄:IsPair h₄ TO x b:=hs₄.extBut _ _ D.i hTO₃;refine wpAny_bind (wpAny_seqItems hTO₄ rfl ?_);refine wpAny_bind (wpAny_updateSeq_pair hTO₄ fun h₅ hTO₅ hs₅=>?_)
 replace hTO₅:IsPair h₅ TO x y:=hTO₅
 refine wpAny_bind (wpAny_letGo (wpAny_pure (wpAny_pure ?_)));refine wpAny_bind (wpAny_seqItems hTO₅ rfl ?_);refine wpAny_bind (wpAny_newTuple ?_);have hsz:h₅.objs.size=s.heap.objs.size:=by rw [hs₅.1,hs₄.1,hs₃.1,hs₂.1,hs₁.1]
 have hz₅:IsZip h₅ z TI TO .ellipsis:=hs₅.extBut _ _ D.b.symm (hs₄.extBut _ _ D.d.symm (hs₃.extBut _ _ D.b.symm (hs₂.extBut _ _ D.c.symm hz₁)));have hk₅:∀ c o,c≠z->c≠TO->c≠i1->c≠i2->s.heap.get? c=some o->h₅.get? c=some o:=fun c o c1 c2 c3 c4 e=>hs₅.extBut _ _ c2 (hs₄.extBut _ _ c4 (gP c o c1 c2 c3 c4 e))
 have Ed:S1 (k+1) h₅:=U1.keep _ _ _ jf fun o e=>hs₅.extBut _ _ D.h.symm (hs₄.extBut _ _ D.j (hs₃.extBut _ _ D.h.symm e))
 have Ef:S2 (k+1) h₅:=U2.keep _ _ _ nJ fun o e=>hs₅.extBut _ _ D.i.symm e
 have hzlt:z<h₅.objs.size:=Heap.lt_size hz₅
 show wpAny _ _ (Builtin.SmallTypes.ownedTupleHandOut (.ref z) (.ref h₅.objs.size) >>= _) _ _ _
 refine wpAny_bind ?_;unfold Builtin.SmallTypes.ownedTupleHandOut;have hz₆:IsZip (h₅.push { cls := .type "tuple",data := .seq #[x,y] }) z TI TO .ellipsis:=Heap.get?_push_of_some _ hz₅;refine wpAny_bind (wpAny_setField_rec hz₆ (by simp) fun h₇ hz₇ hs₇=>?_)
 replace hz₇:IsZip h₇ z TI TO (rawInt h₅.objs.size):=hz₇
 refine wpAny_setField_rec hz₇ (by simp) fun h₈ hz₈ hs₈=>?_
 replace hz₈:IsZip h₈ z TI TO (rawInt h₅.objs.size):=hz₈
 have up:∀ c o,c≠z->h₅.get? c=some o->h₈.get? c=some o:=fun c o c1 e=>hs₈.extBut _ _ c1 (hs₇.extBut _ _ c1 (Heap.get?_push_of_some _ e))
 have hT₈:IsPair h₈ h₅.objs.size x y:=hs₈.extBut _ _ (Nat.ne_of_gt hzlt) (hs₇.extBut _ _ (Nat.ne_of_gt hzlt) (Heap.get?_push_size _ rfl));have hz8:h₈.objs.size=h₅.objs.size+1:=by rw [hs₈.1,hs₇.1,Heap.size_push]
 rw [hsz] at hz₈ hT₈ hz8
 refine wpAny_pure ⟨_,rfl,wpAny_pure ?_⟩
 show Q (some (.ref h₅.objs.size)) _
 rw [hsz];exact hQ h₈ tk₄ hz₈ (up _ _ D.b hTO₅) (U1.keep _ _ _ Ed fun o e=>up _ o D.c e) (U2.keep _ _ _ Ef fun o e=>up _ o D.d e) hT₈ hz8 fun c o c1 c2 c3 c4 e=>up c o c1 (hk₅ c o c1 c2 c3 c4 e)
theorem Tg {Q:Option Value->Shared->Prop} (hh:A.handled=none) (D:cD z TI TO i1 i2) (U1:Sub prog w i1 S1 R1) (U2:Sub prog w i2 S2 R2)
  (k1:∀ h h' g,R1 h g->(∀ c o,c≠z->c≠TO->c≠i1->c≠i2->h.get? c=some o->h'.get? c=some o)->R1 h' g) (k2:∀ h h' g,R2 h g->(∀ c o,c≠z->c≠TO->c≠i1->c≠i2->h.get? c=some o->h'.get? c=some o)->R2 h' g)
  (hz:IsZip s.heap z TI TO .none) (hTI:IsPair s.heap TI (.ref i1) (.ref i2)) (hTO:IsPair s.heap TO a b) (h1:S1 k s.heap) (h2:S2 k s.heap) (r1:R1 s.heap g1) (r2:R2 s.heap g2) (hend:g1 k=none\/g2 k=none)
  (hQ:∀ h' tk,(∀ c o,c≠z->c≠TO->c≠i1->c≠i2->s.heap.get? c=some o->h'.get? c=some o)->Q none { s with heap:=h',toks:=tk }):wpAny (model prog w) A (pyNext (.ref z)) Q E s:=by
 have hT:s.TypeIs (.ref z) "zip":=⟨_,hz,rfl⟩;unfold pyNext;refine wpAny_bind (wpAny_attempt (wpAny_callSpecial?_slot (name:=Str.ofString "__next__") hT F.slot_zip_next (wpAny_call_entry F.slot_zip_next hT F.entry_zip_next ?_ (F.args_zip_next_1 _))))
 show wpAny _ _ (field (.ref z) 2 >>= _) _ _ _
 refine wpAny_bind (wpAny_field hz rfl (x := .bool false) rfl ?_)
 show wpAny _ _ (field (.ref z) 3 >>= _) _ _ _
 refine wpAny_bind (wpAny_field hz rfl (x := .ref TI) rfl ?_);refine wpAny_bind (wpAny_seqItems hTI rfl ?_)
 show wpAny _ _ (Builtin.SmallTypes.ownedTupleIsFree (.ref z) >>= _) _ _ _
 refine wpAny_bind ?_;unfold Builtin.SmallTypes.ownedTupleIsFree;refine wpAny_bind (wpAny_field hz rfl (x := .none) rfl (wpAny_pure ?_));simp only [if_true];refine wpAny_bind (wpAny_rule ?_);refine wpAny_bind (wpAny_field hz rfl (x := .ref TO) rfl ?_);refine wpAny_bind (wpAny_setField_rec hz (by simp) fun h₁ hz₁ hs₁=>?_)
 replace hz₁:IsZip h₁ z TI TO .ellipsis:=hz₁
 refine wpAny_bind ?_;simp only [List.zipIdx_cons,List.zipIdx_nil,List.forIn_cons,List.forIn_nil];refine wpAny_bind (wpAny_bind (wpAny_onRaise ?_))
 show wpAny _ _ (Builtin.SmallTypes.nextOf (.ref i1) >>= _) _ _ _
 have jd:S1 k h₁:=U1.keep _ _ _ h1 fun o e=>hs₁.extBut _ _ D.c e
 have je:R1 h₁ g1:=k1 _ _ _ r1 fun c o c1 _ _ _ e=>hs₁.extBut _ _ c1 e
 cases hx:g1 k with
 | none =>
  refine wpAny_bind (U1.fin _ k { s with heap:=h₁ } g1 _ _ hh jd je hx fun h₂ e hs₂ he=>?_);obtain ⟨oe,hoe,hce⟩:=he;have hz₂:IsZip h₂ z TI TO .ellipsis:=hs₂ _ _ D.c.symm hz₁;have hez:e≠z:=fun x=>by subst x;rw [hz₂] at hoe;cases hoe;simp at hce
  refine wpAny_setField_rec hz₂ (by simp) fun h₃ _ hs₃=>?_
  refine wpAny_bind (wpAny_isInstance (T:="StopIteration") (b:=true) ⟨oe,hs₃.extBut _ _ hez hoe,hce⟩ isSubtype_stop ?_);exact wpAny_pure (hQ h₃ s.toks fun c o c1 _ c3 _ x=>hs₃.extBut _ _ c1 (hs₂ _ _ c3 (hs₁.extBut _ _ c1 x)))
 | some x =>
  have hy:g2 k=none:=by rcases hend with h | h;rw [hx] at h;cases h;exact h
  refine wpAny_bind (U1.item _ k { s with heap:=h₁ } g1 x _ _ jd je hx fun h₂ tk₂ jf hs₂=>wpAny_pure ?_);have hTO₂:IsPair h₂ TO a b:=hs₂.extBut _ _ D.h (hs₁.extBut _ _ D.b hTO);refine wpAny_bind (wpAny_seqItems hTO₂ rfl ?_);refine wpAny_bind (wpAny_updateSeq_pair hTO₂ fun h₃ hTO₃ hs₃=>?_);refine wpAny_bind (wpAny_letGo (wpAny_pure ?_));refine wpAny_bind (wpAny_bind (wpAny_onRaise ?_))
  show wpAny _ _ (Builtin.SmallTypes.nextOf (.ref i2) >>= _) _ _ _
  have gP:∀ c o,c≠z->c≠TO->c≠i1->c≠i2->s.heap.get? c=some o->h₃.get? c=some o:=fun c o c1 c2 c3 c4 e=>hs₃.extBut _ _ c2 (hs₂.extBut _ _ c3 (hs₁.extBut _ _ c1 e))
  have nH:S2 k h₃:=U2.keep _ _ _ h2 fun o e=>hs₃.extBut _ _ D.i.symm (hs₂.extBut _ _ D.j.symm (hs₁.extBut _ _ D.d e))
  refine wpAny_bind (U2.fin _ k { s with heap:=h₃,toks:=tk₂ } g2 _ _ hh nH (k2 _ _ _ r2 gP) hy fun h₄ e hs₄ he=>?_);obtain ⟨oe,hoe,hce⟩:=he;have hz₄:IsZip h₄ z TI TO .ellipsis:=hs₄ _ _ D.d.symm (hs₃.extBut _ _ D.b.symm (hs₂.extBut _ _ D.c.symm hz₁));have hez:e≠z:=fun x=>by subst x;rw [hz₄] at hoe;cases hoe;simp at hce
  refine wpAny_setField_rec hz₄ (by simp) fun h₅ _ hs₅=>?_
  refine wpAny_bind (wpAny_isInstance (T:="StopIteration") (b:=true) ⟨oe,hs₅.extBut _ _ hez hoe,hce⟩ isSubtype_stop ?_);exact wpAny_pure (hQ h₅ tk₂ fun c o c1 c2 c3 c4 x=>hs₅.extBut _ _ c1 (hs₄ _ _ c4 (gP c o c1 c2 c3 c4 x)))
end
abbrev uy (h:Heap) (o1 o2:Obj):Heap:=((h.push o1).push o2)
abbrev uz (h:Heap) (o1 o2:Obj):Heap:=(uy h o1 o2).push { cls := .type "tuple",data := .seq #[.ref h.objs.size,.ref (h.push o1).objs.size] }
abbrev uE (h:Heap) (o1 o2:Obj):Heap:=(uz h o1 o2).push { cls := .type "tuple",data := .seq #[.none,.none] }
abbrev jr (h:Heap) (o1 o2:Obj):Heap:=(uE h o1 o2).push { cls := .type "zip",data := .fields #[.none,.bool false,.bool false,.ref (uy h o1 o2).objs.size,.ref (uz h o1 o2).objs.size] }
def VN (h:Heap) (v:Value) (o:Obj):Prop:=∀ (prog:Program) (w:World) (A:Around) (E:Value->Shared->Prop) (s:Shared) (Q:Value->Shared->Prop),(∀ b ob,h.get? b=some ob->s.heap.get? b=some ob) ->
 Q (.ref s.heap.objs.size) { s with heap:=s.heap.push o }->wpAny (model prog w) A (pyIter v) Q E s
theorem Ui {h:Heap} {t:Addr} {items:Array Value} (ht:h.IsTuple t items):VN h (.ref t) { cls := .type "tuple_iterator",data := .fields #[.ref t,.int 0 0] }:=fun prog w A E s Q k q=>by
 obtain ⟨o,e,r⟩:=ht;exact wpAny_pyIter_tuple (items:=items) ⟨o,k _ _ e,r⟩ q
theorem Ti (v1 v2:Value) (o1 o2:Obj) :
  Meets (Builtin.«zip.__new__» ⟨[.type "zip",v1,v2],[]⟩) (fun _ R s=>VN s.heap v1 o1/\VN s.heap v2 o2/\R (.ok (.ret (.ref (uE s.heap o1 o2).objs.size))) { s with heap:=jr s.heap o1 o2 }) :=
 .of_wp fun prog w A R s h=>by
  obtain ⟨hp,g,d,tk,os⟩:=s;obtain ⟨h1,h2,h⟩:=h;have hsub:=sub_zip;have p1:∀ {A':Around} {E:Value->Shared->Prop} {Q:Value->Shared->Prop},Q (.ref hp.objs.size) ⟨hp.push o1,g,d,tk,os⟩->wpAny (model prog w) A' (pyIter v1) Q E ⟨hp,g,d,tk,os⟩:=fun q=>h1 prog w _ _ ⟨hp,g,d,tk,os⟩ _ (fun _ _ e=>e) q
  have p2:∀ {A':Around} {E:Value->Shared->Prop} {Q:Value->Shared->Prop},Q (.ref (hp.push o1).objs.size) ⟨(hp.push o1).push o2,g,d,tk,os⟩->wpAny (model prog w) A' (pyIter v2) Q E ⟨hp.push o1,g,d,tk,os⟩:=fun q=>h2 prog w _ _ ⟨hp.push o1,g,d,tk,os⟩ _ (fun _ _ e=>Heap.get?_push_of_some _ e) q
  wp_walk using p1,p2
  exact ⟨_,rfl,h⟩
section
variable {prog:Program} {w:World} {A:Around} {E:Value->Shared->Prop} {s:Shared}
theorem Tj {v1 v2:Value} {o1 o2:Obj} {Q:Value->Shared->Prop} (p1:VN s.heap v1 o1) (p2:VN s.heap v2 o2) (f1:o1.isFreed=false) (f2:o2.isFreed=false)
  (h:∀ h',IsZip h' (s.heap.objs.size+4) (s.heap.objs.size+2) (s.heap.objs.size+3) .none->IsPair h' (s.heap.objs.size+2) (.ref s.heap.objs.size) (.ref (s.heap.objs.size+1))->IsPair h' (s.heap.objs.size+3) .none .none ->
   h'.get? s.heap.objs.size=some o1->h'.get? (s.heap.objs.size+1)=some o2->h'.objs.size=s.heap.objs.size+5->(∀ c o,s.heap.get? c=some o->h'.get? c=some o)->Q (.ref (s.heap.objs.size+4)) { s with heap:=h' }) :
  wpAny (model prog w) A (call (.type "zip") [v1,v2]) Q E s:=by
 refine callType_new F.called_zip (by decide) (F.typeCall_zip_2 _ _) (F.newCall_zip_2 _ _) (fun obj=>F.args_object_init_3 obj _ _) F.entry_zip_new (Ti v1 v2 o1 o2) ⟨p1,p2,?_⟩;have z1:(s.heap.push o1).objs.size=s.heap.objs.size+1:=Heap.size_push ..;have z2:(uy s.heap o1 o2).objs.size=s.heap.objs.size+2:=by rw [Heap.size_push,z1]
 have z3:(uz s.heap o1 o2).objs.size=s.heap.objs.size+3:=by rw [Heap.size_push,z2]
 have z4:(uE s.heap o1 o2).objs.size=s.heap.objs.size+4:=by rw [Heap.size_push,z3]
 have z5:(jr s.heap o1 o2).objs.size=s.heap.objs.size+5:=by rw [Heap.size_push,z4]
 have g5:(jr s.heap o1 o2).get? (uE s.heap o1 o2).objs.size=some _:=Heap.get?_push_size _ rfl;have g4:(jr s.heap o1 o2).get? (uz s.heap o1 o2).objs.size=some _:=Heap.get?_push_of_some _ (Heap.get?_push_size _ rfl);have g3:(jr s.heap o1 o2).get? (uy s.heap o1 o2).objs.size=some _:=Heap.get?_push_of_some _ (Heap.get?_push_of_some _ (Heap.get?_push_size _ rfl));have g2:(jr s.heap o1 o2).get? (s.heap.push o1).objs.size=some o2:=Heap.get?_push_of_some _ (Heap.get?_push_of_some _ (Heap.get?_push_of_some _ (Heap.get?_push_size _ f2)));have g1:(jr s.heap o1 o2).get? s.heap.objs.size=some o1:=Heap.get?_push_of_some _ (Heap.get?_push_of_some _ (Heap.get?_push_of_some _ (Heap.get?_push_of_some _ (Heap.get?_push_size _ f1))))
 show _/\_
 rw [z2,z3,z4] at g5
 rw [z1,z2] at g3
 rw [z3] at g4
 rw [z1] at g2
 rw [z4];exact ⟨⟨_,g5,rfl⟩,h _ g5 g3 g4 g1 g2 z5 fun c o x=>Heap.get?_push_of_some _ (Heap.get?_push_of_some _ (Heap.get?_push_of_some _ (Heap.get?_push_of_some _ (Heap.get?_push_of_some _ x))))⟩
end
section
variable {X:Cx} {pins:List (Addr×Obj)} {σ:St} {H:Hp} {s:Shared} {h':Heap}
theorem Inv.vL {t':Nat} {ch:List Addr} (I:Inv X pins σ H s) (k:∀ b o,b∉ch->s.heap.get? b=some o->h'.get? b=some o) (hf:∀ b∈ch,Wm X pins H b):Inv X pins σ H { s with heap:=h',toks:=t' }:=by
 have fB:∀ b u,H b=some u->b∉ch:=fun b u e z=>by rw [(hf b z).1] at e;cases e
 refine I.step (g':=s.gens) (d':=s.drawn) (ch:=ch) (fun b hb=>?_) (fun b o _ _ hc e _=>k b o hc e) (fun b o _ _ hc e _=>⟨o.slots,k b o hc e⟩) (fun _ _ _ _ n=>n)
  (fun b o hc e=>⟨o,k b o hc e⟩) (fun _ _ e=>e) (fun _ _ _ e=>e) (fun b ps e=>⟨#[],by rw [e];simp⟩) (fun m hm=>?_) (fun b u e=>?_) I.bare
 ·obtain ⟨f0,f1,f2,f3,f4,f5⟩:=hf b hb
  exact ⟨f3,f1,f4,f5⟩
 ·obtain ⟨o,es,ep,ho,r⟩:=hm
  exact ⟨o,es,ep,k _ o (fun z=>(hf _ z).2.1 rfl) ho,r⟩
 ·refine (I.hok b u e).stay (fun c v hc q=>k c v ?_ q) (fun _ q=>q) fun _ _ q=>q
  rcases hc with z | z
  ·rw [z];exact fB b u e
  ·exact fB c _ z
theorem Inv.mR {t':Nat} {ch:List Addr} {T:Addr} {vs:List V} (I:Inv X pins σ H s) (k:∀ b o,b∉ch->s.heap.get? b=some o->h'.get? b=some o) (hf:∀ b∈ch,Wm X pins H b) (hT:s.heap.objs.size<=T)
  (new:Y1 X.prog X.w (upd H T (.tup vs)) h' T (.tup vs)):Inv X pins σ (upd H T (.tup vs)) { s with heap:=h',toks:=t' }:=by
 have hn:H T=none:=I.hok.fresh hT;have fB:∀ b u,H b=some u->b∉ch:=fun b u e z=>by rw [(hf b z).1] at e;cases e
 have nT:∀ b o,s.heap.get? b=some o->b≠T:=fun b o e z=>absurd (Heap.lt_size e) (by rw [z];exact Nat.not_lt.mpr hT)
 have up:∀ b u,H b=some u->upd H T (.tup vs) b=some u:=fun b u e=>by rw [Yg (Yt e hn)];exact e
 refine I.step (g':=s.gens) (d':=s.drawn) (ch:=ch) (fun b hb=>?_) (fun b o _ _ hc e _=>k b o hc e) (fun b o _ _ hc e _=>⟨o.slots,k b o hc e⟩) (fun b o _ e n=>by rw [Yg (nT b o e)];exact n)
  (fun b o hc e=>⟨o,k b o hc e⟩) (fun b xs e=>up b _ e) (fun b o u e=>up b _ e) (fun b ps e=>⟨#[],by rw [up b _ e];simp⟩) (fun m hm=>?_) (fun b u e=>?_) I.bare
 ·obtain ⟨f0,f1,f2,f3,f4,f5⟩:=hf b hb
  exact ⟨f3,f1,f4,f5⟩
 ·obtain ⟨o,es,ep,ho,r⟩:=hm
  exact ⟨o,es,ep,k _ o (fun z=>(hf _ z).2.1 rfl) ho,r⟩
 ·by_cases hb:b=T
  ·subst hb;rw [Yd] at e;cases e;exact new
  ·rw [Yg hb] at e
   refine (I.hok b u e).stay (fun c v hc q=>k c v ?_ q) (fun c q=>up c _ q) fun c xs q=>up c _ q
   rcases hc with z | z
   ·rw [z];exact fB b u e
   ·exact fB c _ z
end
section
variable {X:Cx} {elts:List Expr} {kk:Nat} {tpos:Pos}
theorem Tn (n:Nat):cD (n+4) (n+2) (n+3) n (n+1):=by
 constructor<;>(intro e;have e':@Eq Nat _ _:=e;omega)
theorem Vy {J:It} {P:Hp->Prop} {xs:List V} (hJ:Wr J P xs) {src:List (Option Nat)} {g:TG} {te:TE} {σ:St} {H1:Hp} {Q:VK} {D:Addr} (Pv:Nat->List V->St->Hp->Prop)
  (h0:Pv 0 [] (YI src σ) (upd H1 D (.lst []))) (hP:∀ i ys σ' H',Pv i ys σ' H'->P H'/\H' D=some (.lst ys))
  (mono:∀ x σ H Q Q',(∀ σ' H',Q σ' H'->Q' σ' H')->g x σ H Q->g x σ H Q')
  (step:∀ i ys σ' H' x,xs[i]?=some x->Pv i ys σ' H'->g x σ' H' fun σ2 H4=>te σ2 H4 fun y H6=>H6 D=some (.lst ys)/\ys.length<sizeLine/\Pv (i+1) (ys++[y]) σ2 (upd H6 D (.lst (ys++[y]))))
  (fin:∀ ys σ' H',Pv xs.length ys σ' H'->Q (.ref D) H'):LC src J g Wa te σ H1 Q D :=
 GX hJ Pv h0 hP (fun i ys σ' H' x hx p=>by
  refine mono _ _ _ _ _ ?_ (step i ys σ' H' x hx p);intro σ2 H4 q;unfold Wa;dsimp only;rw [if_pos rfl];exact q) fin
theorem X3 (i:Nat):∀ x σ H Q Q',(∀ σ' H',Q σ' H'->Q' σ' H')->YG i x σ H Q->YG i x σ H Q':=fun _ _ _ _ _ h q=>h _ _ q
end
structure Gx where
 P:Program
 w:World
 K:W.Frag
 mg:Str->Option Value
 base:Heap
def Cx.gx (X:Cx):Gx:=⟨X.prog,X.w,X.K,X.mg,X.base⟩
def Gx.Raw (g:Gx) (x qual:Str) (st:Stmt) (ps:List Str):Prop:=∃ f fd,fY g.K x qual st f fd/\Xi g.K fd ps []/\g.mg x=some (.ref f)
def Gx.Fn (g:Gx) (k:Nat) (x:Str) (ps:List Str) (sp:Sp):Prop:=∃ f fd,bM g.P g.w g.K g.mg g.base fX k f fd ps sp/\Xi g.K fd ps []/\W.keepIn g.K (.ref f)=true/\g.mg x=some (.ref f)
def Gx.aO (g:Gx) (C:Addr) (m qual:Str) (st:Stmt) (ps:List Str):Prop:=∃ f fd,fY g.K m qual st f fd/\Xi g.K fd ps []/\Meth g.K C m f
def Gx.Me (g:Gx) (k:Nat) (C:Addr) (m:Str) (ps:List Str) (sp:Sp):Prop:=∃ f fd,bM g.P g.w g.K g.mg g.base fX k f fd ps sp/\Xi g.K fd ps []/\Meth g.K C m f
def Gx.bU (g:Gx) (x:Str) (C:Addr) (qual:Str) (st:Stmt) (ps:List Str):Prop:=∃ f fd,fY g.K "__init__" qual st f fd/\Xi g.K fd ps []/\Mk g.K C f/\g.mg x=some (.ref C)
def Gx.Ma (g:Gx) (k:Nat) (x:Str) (C:Addr) (ps:List Str) (sp:Sp):Prop:=∃ f fd,bM g.P g.w g.K g.mg g.base fX k f fd ps sp/\Xi g.K fd ps []/\Mk g.K C f/\g.mg x=some (.ref C)
def Gx.iH (g:Gx) (x:Str) (v:V):Prop:=∃ u,g.mg x=some u/\YF v u
abbrev Gx.cx (g:Gx) (N:List Str) (qual:Str) (st:Stmt) (f:Addr) (cdv:Value) (A:Around) (outer:List Env) (s:Shared) (H:Hp) (E:XK):Cx:=(Ur fX g.P g.w g.K g.mg g.base N qual (Yi st) f cdv A outer s H E).jm
def Uu (g:Gx) (k:Nat) (N:List Str) (qual:Str) (st:Stmt) (sp:Sp):Prop:=∀ (f:Addr) (cdv:Value) (A:Around) (outer:List Env) (s:Shared) (H:Hp) (vs:List V) (Q:VK) (E:XK),aQ k (g.cx N qual st f cdv A outer s H E).A->sp vs H Q E ->
 ∃ t,dM (g.cx N qual st f cdv A outer s H E) (Y2 st) t/\t { nx:=fun _ H'=>Q .non H',rt:=Q } (Wq N vs) H
section
variable {g:Gx} {k:Nat} {x qual m:Str} {st:Stmt} {N ps:List Str} {sp:Sp} {C:Addr}
theorem Gx.Raw.fn (R:g.Raw x qual st ps) (S:ak N ps (Yi st)) (len:∀ vs H Q E,sp vs H Q E->vs.length=ps.length) (b:Uu g k N qual st sp):g.Fn (k+1) x ps sp:=by
 obtain ⟨f,fd,F,bd,hm⟩:=R;exact ⟨f,fd,F.ok S len fun cdv A outer s H vs Q E hr h=>b f cdv A outer s H vs Q E hr h,bd,F.kp,hm⟩
theorem Gx.aO.me (R:g.aO C m qual st ps) (S:ak N ps (Yi st)) (len:∀ vs H Q E,sp vs H Q E->vs.length=ps.length) (b:Uu g k N qual st sp):g.Me (k+1) C m ps sp:=by
 obtain ⟨f,fd,F,bd,hm⟩:=R;exact ⟨f,fd,F.ok S len fun cdv A outer s H vs Q E hr h=>b f cdv A outer s H vs Q E hr h,bd,hm⟩
theorem Gx.bU.ma (R:g.bU x C qual st ps) (S:ak N ps (Yi st)) (len:∀ vs H Q E,sp vs H Q E->vs.length=ps.length) (b:Uu g k N qual st sp):g.Ma (k+1) x C ps sp:=by
 obtain ⟨f,fd,F,bd,hm,hg⟩:=R;exact ⟨f,fd,F.ok S len fun cdv A outer s H vs Q E hr h=>b f cdv A outer s H vs Q E hr h,bd,hm,hg⟩
theorem Gx.Fn.mono {j:Nat} (F:g.Fn j x ps sp) (h:j<=k):g.Fn k x ps sp:=by
 obtain ⟨f,fd,F,r⟩:=F;exact ⟨f,fd,F.mono h,r⟩
theorem Gx.Me.mono {j:Nat} (F:g.Me j C m ps sp) (h:j<=k):g.Me k C m ps sp:=by
 obtain ⟨f,fd,F,r⟩:=F;exact ⟨f,fd,F.mono h,r⟩
theorem Gx.Raw.none (R:g.Raw x qual st ps) (no:∀ vs H Q E,¬ sp vs H Q E):g.Fn k x ps sp:=by
 obtain ⟨f,fd,F,bd,hm⟩:=R;exact ⟨f,fd,⟨fun vs H Q E h=>absurd h (no vs H Q E),fun A outer s H args us vs Q E _ _ _ _ h=>absurd h (no vs H Q E)⟩,bd,F.kp,hm⟩
theorem Gx.aO.none (R:g.aO C m qual st ps) (no:∀ vs H Q E,¬ sp vs H Q E):g.Me k C m ps sp:=by
 obtain ⟨f,fd,F,bd,hm⟩:=R;exact ⟨f,fd,⟨fun vs H Q E h=>absurd h (no vs H Q E),fun A outer s H args us vs Q E _ _ _ _ h=>absurd h (no vs H Q E)⟩,bd,hm⟩
end
section
variable {g:Gx} {X:Cx} {k j:Nat} {x m:Str} {ps:List Str} {sp:Sp} {C:Addr} {e o:Expr} {es:List Expr} {t:TA} {ta:TE} {p pos apos:Pos}
theorem YA (F:g.Fn j x ps sp) (hr:aQ k X.A) (ha:PA X (e::es) t) (hj:j<=k) (hX:X.gx=g) (hg:Gl X x) (hdb:(x==("__debug__":Str))=false)
  (he:starEach (e::es) X.env=(false,eval e X.env)::starEach es X.env) (hpl:(backTo pos (starEach es X.env)).any (·.1)=false):PE X (.Call (.Name x p) (e::es) [] pos) (XS sp [] E0 t):=by
 subst hX;obtain ⟨f,fd,F,b,kp,hm⟩:=F;exact FZ F (hr.mono hj) hg hm kp b .nil Vw ha hdb he hpl
theorem XA {pl:Sem Bool} (F:g.Me j C m ps sp) (c:Cls g.K C) (hr:aQ k X.A) (ho:PE X o ta) (ha:PA X (e::es) t) (hj:j<=k) (hX:X.gx=g)
  (hst:starEach (e::es) X.env=(false,eval e X.env)::starEach es X.env) (hpl:(backTo pos (starEach es X.env)).any (·.1)=false)
  (ht:eval (.Call (.Attribute o m apos) (e::es) [] pos) X.env=(do
   let ov <- eval o X.env
   standAt apos.atName
   let (f,first) <- holding [ov] (getMethod ov m pl)
   callWith pos f first (backTo pos (starEach (e::es) X.env)) (backToKw pos (keywordEach [] X.env)))):PE X (.Call (.Attribute o m apos) (e::es) [] pos) (Qp C m sp [] E0 ta t):=by
 subst hX;obtain ⟨f,fd,F,b,hm⟩:=F;exact RJ ho c hm F (hr.mono hj) b .nil Vw ha hst hpl ht
theorem UL (F:g.Ma j x C ps sp) (hr:aQ k X.A) (ha:PA X (e::es) t) (hj:j+1<=k) (hX:X.gx=g) (hg:Gl X x) (hdb:(x==("__debug__":Str))=false)
  (he:starEach (e::es) X.env=(false,eval e X.env)::starEach es X.env) (hpl:(backTo pos (starEach es X.env)).any (·.1)=false):PE X (.Call (.Name x p) (e::es) [] pos) (UK C sp [] E0 t):=by
 subst hX;obtain ⟨f,fd,F,b,M,hm⟩:=F;exact RL M F (hr.mono hj) hg hm b .nil Vw ha hdb he hpl
theorem XB {v:V} (F:g.iH x v) (hX:X.gx=g) (hg:Gl X x) (hd:(x==("__debug__":Str))=false):PE X (.Name x pos) (tC v):=by
 subst hX;obtain ⟨u,hm,r⟩:=F;exact QL hg hm r hd
theorem YS {id:String} {r:List V->Hp->VK->Prop} (hm:g.mg x=none) (hc:X0 X (.builtin id) r) (ha:PA X (e::es) t) (hv:bootBuiltins x=some (.builtin id)) (hX:X.gx=g) (hg:Gl X x) (hn:x≠"__name__") (hdb:(x==("__debug__":Str))=false)
  (he:starEach (e::es) X.env=(false,eval e X.env)::starEach es X.env) (hpl:(backTo pos (starEach es X.env)).any (·.1)=false):PE X (.Call (.Name x p) (e::es) [] pos) (mJ r t):=by
 subst hX;exact RP hc hg hm hv ha hn hdb he hpl
theorem Vz {T:String} {r:List V->Hp->VK->Prop} (hm:g.mg x=none) (hc:X0 X (.type T) r) (ha:PA X (e::es) t) (hv:bootBuiltins x=some (.type T)) (hX:X.gx=g) (hg:Gl X x) (hn:x≠"__name__") (hdb:(x==("__debug__":Str))=false)
  (he:starEach (e::es) X.env=(false,eval e X.env)::starEach es X.env) (hpl:(backTo pos (starEach es X.env)).any (·.1)=false):PE X (.Call (.Name x p) (e::es) [] pos) (mJ r t):=by
 subst hX;exact RQ hc hg hm hv ha hn hdb he hpl
theorem Wt {T:String} (hm:g.mg x=none) (hv:bootBuiltins x=some (.type T)) (hX:X.gx=g) (hg:Gl X x) (hn:x≠"__name__") (hdb:(x==("__debug__":Str))=false):PE X (.Name x pos) (tC (.ty T)):=by
 subst hX;exact Py hg hm hv rfl hn hdb
end
def S (l:List Nat):Str:=⟨l.toArray⟩
theorem Tq (l:List Nat):(S l).cps.toList=l:=by simp [S]
theorem uF {a b:List Nat} (h:S a=S b):a=b:=by
 have:=congrArg (fun x:Str=>x.cps.toList) h;simpa [Tq] using this
section
variable {K:W.Frag} {h:Heap} {mg:Str->Option Value} {P:Program} {w:World} {base:Heap} {f C:Addr} {x qual m:Str} {st:Stmt} {ps:List Str} {oc kV dc pm cd ct:Value} {od an:Option Addr} {sl:Array (Option Value)}
theorem YM (X:K.In h) (G:h.Ns mainGlobals mg) (ps:List Str)
  (a:PySem.W.nsIn K mainGlobals x=some (some (.ref f))) (l:K.lookup f=some ⟨oc,od,.func (PySem.W.fnOf x x (Y9 st) (Y2 st) (Yi st) .none kV dc pm an cd ct),sl⟩) (c:PySem.W.codeIn K cd x=true) (k:PySem.W.keepIn K (.ref f)=true)
  (b:∀ (kV doc pm:Value) (an:Option Addr) (cdv ct:Value) (us:List Value),us.length=ps.length->bindArgs (PySem.W.fnOf x x (Y9 st) (Y2 st) (Yi st) .none kV doc pm an cdv ct) ⟨us,[]⟩=pure (ps.zip us)) :
  ∀ P w base,(Gx.mk P w K mg base).Raw x x st ps:=fun P w base =>
 have F:=Us (st:=st) l c k
 ⟨f,_,F,F.binds b,PySem.W.mg_of X G a⟩
theorem Y3 (X:K.In h) (G:h.Ns mainGlobals mg) (ps:List Str)
  (a:PySem.W.findIn K (.ref C) m=some (some (.ref f))) (i:PySem.W.isFn K (.ref f)=true) (l:K.lookup f=some ⟨oc,od,.func (PySem.W.fnOf m qual (Y9 st) (Y2 st) (Yi st) .none kV dc pm an cd ct),sl⟩) (c:PySem.W.codeIn K cd qual=true) (k:PySem.W.keepIn K (.ref f)=true)
  (b:∀ (kV doc pm:Value) (an:Option Addr) (cdv ct:Value) (us:List Value),us.length=ps.length->bindArgs (PySem.W.fnOf m qual (Y9 st) (Y2 st) (Yi st) .none kV doc pm an cdv ct) ⟨us,[]⟩=pure (ps.zip us)) :
  ∀ P w base,(Gx.mk P w K mg base).aO C m qual st ps:=fun P w base =>
 have F:=Us (st:=st) l c k
 ⟨f,_,F,F.binds b,⟨a,i,k⟩⟩
theorem Wz (X:K.In h) (G:h.Ns mainGlobals mg) (ps:List Str) (aC:PySem.W.nsIn K mainGlobals x=some (some (.ref C))) (mk:PySem.W.makesIn K C=true) (kc:PySem.W.keepIn K (.ref C)=true)
  (a:PySem.W.findIn K (.ref C) "__init__"=some (some (.ref f))) (i:PySem.W.isFn K (.ref f)=true) (l:K.lookup f=some ⟨oc,od,.func (PySem.W.fnOf "__init__" qual (Y9 st) (Y2 st) (Yi st) .none kV dc pm an cd ct),sl⟩) (c:PySem.W.codeIn K cd qual=true) (k:PySem.W.keepIn K (.ref f)=true)
  (b:∀ (kV doc pm:Value) (an:Option Addr) (cdv ct:Value) (us:List Value),us.length=ps.length->bindArgs (PySem.W.fnOf "__init__" qual (Y9 st) (Y2 st) (Yi st) .none kV doc pm an cdv ct) ⟨us,[]⟩=pure (ps.zip us)) :
  ∀ P w base,(Gx.mk P w K mg base).bU x C qual st ps:=fun P w base =>
 have F:=Us (st:=st) l c k
 ⟨f,_,F,F.binds b,⟨mk,a,i,kc⟩,PySem.W.mg_of X G aC⟩
theorem G4 (X:K.In h) (G:h.Ns mainGlobals mg) {i:Str} {t:Tok} (a:W.nsIn K mainGlobals x=some (some (.str i t))):∀ P w base,(Gx.mk P w K mg base).iH x (.str i):=fun P w base=>⟨_,W.mg_of X G a,t,rfl⟩
end
def G5 (K:W.Frag) (mg:Str->Option Value) (st:Stmt) (x n:Str):Prop:=∃ f fd,fY K n n st f fd/\(∀ (s:Shared) (u:Value),BindsTo s fd ⟨[u],[]⟩ [(x,u)])/\mg n=some (.ref f)
theorem Tt {K:W.Frag} {h:Heap} {mg:Str->Option Value} {f:Addr} {x n:Str} {st:Stmt} {oc kV dc pm cd ct:Value} {od an:Option Addr} {sl:Array (Option Value)} (X:K.In h) (G:h.Ns mainGlobals mg)
  (a:W.nsIn K mainGlobals n=some (some (.ref f))) (l:K.lookup f=some ⟨oc,od,.func (W.fnOf n n (Y9 st) (Y2 st) (Yi st) .none kV dc pm an cd ct),sl⟩) (c:W.codeIn K cd n=true) (k:W.keepIn K (.ref f)=true)
  (b:∀ (kV doc pm:Value) (an:Option Addr) (cdv ct:Value) (s:Shared) (u:Value),BindsTo s (W.fnOf n n (Y9 st) (Y2 st) (Yi st) .none kV doc pm an cdv ct) ⟨[u],[]⟩ [(x,u)]):G5 K mg st x n :=
 ⟨f,_,Us (st:=st) l c k,b kV dc pm an cd ct,W.mg_of X G a⟩
section
variable {X:Cx}
theorem G6 {a:Int} {m:Nat} (h:a.natAbs<2^m):Builtin.Int.intBits a<=m:=by
 unfold Builtin.Int.intBits
 split
 ·omega
 ·rename_i h0
  have h0:a.natAbs≠0:=by simpa using h0
  have:=(Nat.log2_lt h0).mpr h;omega
def uG (i j:Int):Prop:=∃ m n:Nat,i.natAbs<2^m/\j.natAbs<2^n/\m+n<=100000000
theorem uG.ok {i j:Int} (h:uG i j):IntMulOk i j:=by
 obtain ⟨m,n,h1,h2,h3⟩:=h;exact IntMulOk.of_le (G6 h1) (G6 h2) (by omega)
def G7 (i j:Int):Prop:=0<j/\j.natAbs<2^9000
theorem Vi:bw X (binaryOp .FloorDiv) (rI G7 fun i j => .int (i / j)):=mH fun i j _ _ _ _ _ hc q=>by
 have h1:(0:Int)<j:=hc.1;have h2:=hc.2;have h3:j.natAbs≠0:=by omega
 exact floordiv_int (by omega) (by rw [Int.fdiv_eq_ediv_of_nonneg i (by omega)];exact q) (.inl (PyProof.noPylong_of_log2 ((Nat.log2_lt h3).mpr h2)))
theorem VB {j:Int} (h:0<j) (h2:j<1073741824) {i:Int}:G7 i j:=⟨h,Nat.lt_of_lt_of_le (show j.natAbs<2^30 by omega) (Nat.pow_le_pow_right (by decide) (by decide))⟩
end
theorem G8 {CX:dz} {P:Program} {w:World} {K:W.Frag} {mg:Str->Option Value} {base:Heap} {N:List Str} {qual:Str} {scope:Scope} {f:Addr} {cd:Value} {A:Around} {outer:List Env} {s:Shared} {H:Hp} {E:XK} :
  (Ur CX P w K mg base N qual scope f cd A outer s H E).K=K:=rfl
theorem G9 {X:Cx}:X.jm.K=X.K:=rfl
section
variable {X:Cx}
theorem Uj (hc:X.calm=true:=by rfl):X0 X (.builtin "sum") (fun xs H Q=>∃ (p:Addr) (ns:List Int),xs=[.ref p]/\ao X.K H p (ns.map V.int)/\Q (.int ns.sum) H):=by
 intro pins s σ H xs us Q I r h;obtain ⟨p,ns,rfl,hq,q⟩:=h;obtain ⟨u,rfl,rx⟩:=W1 r
 cases rx
 obtain ⟨its,r',pl,hz⟩:=I.list hq;have hi:=RT r';have hl:=pl.isList;obtain ⟨xs,ex⟩:=hi.allInts.items;rw [ex] at hl
 have e:preSum (numAt xs) xs.size=ns.sum:=by
  have h1:=nums_intItems (xs:=xs);rw [<- ex] at h1
  have h2:=hi.numsOf;rw [preSum_eq,List.take_of_length_le (by simp)];rw [<- h1];exact congrArg List.sum h2
 refine sum_intListG (I.ok.hd hc) hl fun h' tk t' hk=>?_
 rw [e];exact ⟨.int _,H,I.kept (t':=tk) hk,⟨t',rfl⟩,q⟩
end
def Ite (G:Hp->List V->Prop):It :=
 ⟨fun i H=>∃ xs x,G H xs/\xs[i]?=some x,fun i H v H'=>∃ T,v = .ref T/\H T=none/\∀ xs x,G H xs->xs[i]?=some x->H'=upd H T (.tup [.int i,x]),fun i H=>∃ xs,G H xs/\xs.length<=i⟩
theorem Tv {P:Program} {w:World} {K:W.Frag} {elts:List Expr} {kk:Nat} {pos:Pos} {a e it:Addr} (ne:e≠it) (na:a≠e/\a≠it) :
  Turn P w K (.Tuple elts kk pos) (Ite fun H xs=>ao K H a xs) [e,it] e (fun i h=>(∃ old,IsEnum h e it i old)/\h.IsListIter it a i) where
 mem:=by simp
 obj:=fun i h ⟨⟨old,he⟩,hi⟩ c hc=>by
  simp only [List.mem_cons,List.not_mem_nil,or_false] at hc;rcases hc with rfl | rfl
  ·exact ⟨_,he,fun v z=>by cases z⟩
  ·obtain ⟨o,q,_,d⟩:=hi
   exact ⟨o,q,fun v z=>by rw [d] at z;cases z⟩
 keep:=fun i h h' ⟨⟨old,he⟩,hi⟩ q=>⟨⟨old,q e (by simp) _ he⟩,hi.at fun o z=>q it (by simp) o z⟩
 item:=by
  intro X hP hw hK hc i pins s σ H E I hf ⟨⟨old,he⟩,hi⟩ hg;subst hP hw hK;obtain ⟨xs,x,g1,hx⟩:=hg;obtain ⟨its,rv,pl,hz⟩:=I.list g1;obtain ⟨u,hu,ru⟩:=rv.get hx;refine wpAny_pyNext_enum_item he hi pl.isList (x:=u) (by simpa using hu) ne fun h1 ho hi1 hT hsz kp=>?_
  refine ⟨_,rfl,?_⟩;refine wpAny_letOwnedTupleGo_enum (s:={ s with heap:=h1,toks:=s.toks+1 }) ho fun h2 he2 sb=>?_
  have elt:e<s.heap.objs.size:=Heap.lt_size he;have jt:∀ c o,c∉[e,it]->s.heap.get? c=some o->h2.get? c=some o:=fun c o hm z=>by
   have c1:c≠e:=fun q=>hm (by simp [q])
   have c2:c≠it:=fun q=>hm (by simp [q])
   exact sb.extBut c o c1 (kp c o c1 c2 z)
  have hT2:h2.get? s.heap.objs.size=some { cls := .type "tuple",data := .seq #[.int i s.toks,u] }:=sb.extBut _ _ (Nat.ne_of_gt elt) hT;have I':=I.mR (t':=s.toks+1) (h':=h2) (T:=s.heap.objs.size) (vs:=[.int i,x]) jt hf (Nat.le_refl _) (show Y1 X.prog X.w _ h2 _ (.tup [.int i,x]) from ⟨by show 2<=sizeLine;decide,[.int i s.toks,u],.cons ⟨_,rfl⟩ (.cons ru .nil),_,hT2,rfl,_,rfl⟩);have fresh:H s.heap.objs.size=none:=I.hok.fresh (Nat.le_refl _);refine ⟨.ref s.heap.objs.size,_,I',rfl,⟨_,rfl,fresh,fun xs' x' wX hx'=>?_⟩,⟨⟨_,by simpa using he2⟩,hi1.at fun o z=>sb.extBut _ _ (Ne.symm ne) z⟩,fun c hm=>?_⟩
  ·rw [I.jl wX g1,hx] at hx'
   cases hx'
   rfl
  ·have h0:=(hf c hm).1
   have wY:c<s.heap.objs.size:=by
    simp only [List.mem_cons,List.not_mem_nil,or_false] at hm;rcases hm with rfl | rfl
    ·exact elt
    ·obtain ⟨o,q,_⟩:=hi;exact Heap.lt_size q
   rw [Yg (Nat.ne_of_lt wY)];exact h0
 done:=by
  intro X hP hw hK hc i pins s σ H E I hf ⟨⟨old,he⟩,hi⟩ hg;subst hP hw hK;obtain ⟨xs,g1,hx⟩:=hg;obtain ⟨its,rv,pl,hz⟩:=I.list g1;have hl:=rv.length;obtain ⟨f0,f1,f2,f3,f4,f5⟩:=hf it (by simp);exact wpAny_pyNext_enum_end (I.ok.hd hc) he hi pl.isList (by simp;omega) fun h' eb=>⟨rfl,I.turned (t':=s.toks) (fun b o hb z=>eb b o hb z) f0 f1 f3 f4 f5⟩
 self:=fun _ _ _ _ _ ⟨⟨_,he⟩,_⟩ h=>wpAny_pyIter_enum he h
section
variable {X:Cx} {elts:List Expr} {kk:Nat} {tpos:Pos}
def Hf (K:W.Frag) (ta:TA):TI:=fun σ H R=>ta σ H fun vs H1=>∃ a xs,vs=[.ref a]/\ao K H1 a xs/\R (Ite fun H xs=>ao K H a xs) H1
theorem Tw {a:Expr} {ta:TA} {p pos:Pos} (hg:Gl X "enumerate") (hm:X.mg "enumerate"=none) (ha:PA X [a] ta) (hs:starEach [a] X.env=[(false,eval a X.env)]) :
  PI X (.Tuple elts kk tpos) (.Call (.Name "enumerate" p) [a] [] pos) (Hf X.K ta):=by
 intro pins s σ H R I h;refine Call_ (Wl I hg hm boot_enumerate (PyProof.Rows.callWith_type1 (aG (ha pos pins s σ H _ I h) fun us s1 ⟨vs,H1,I1,r1,q1⟩=>?_) hs rfl));obtain ⟨x,xs,e,hx,q⟩:=q1;subst e;obtain ⟨u,rfl,ru⟩:=W1 r1
 cases ru
 obtain ⟨i1,_,pl,_⟩:=I1.list hx;have l1:x<s1.heap.objs.size:=by obtain ⟨_,e,_⟩:=pl.isList;exact Heap.lt_size e
 refine call_enumerate_list pl.isList fun h' he hi hsz keep=>?_
 refine wpAny_pyIter_enum he ?_;have I2:Inv X pins σ H1 { s1 with heap:=h' }:=I1.kept (t':=s1.toks) keep;have l1':@LT.lt Nat _ x s1.heap.objs.size:=l1;refine ⟨_,[s1.heap.objs.size+1,s1.heap.objs.size],_,_,H1,rfl,I2,Tv (by intro z;have z':@Eq Nat _ _:=z;omega) ⟨by intro z;have z':@Eq Nat _ _:=z;omega,by intro z;have z':@Eq Nat _ _:=z;omega⟩,⟨⟨_,he⟩,hi⟩,fun c hc=>?_,q⟩;have hle:s1.heap.objs.size<=c:=by
  simp only [List.mem_cons,List.not_mem_nil,or_false] at hc;rcases hc with e | e<;>(have e':@Eq Nat _ _:=e;show @LE.le Nat _ s1.heap.objs.size c;omega)
 exact I1.fC hle (I1.hok.fresh hle)
end
mutual
inductive Den (K:W.Frag) (H:Hp):V->PyData->Prop
 | non:Den K H .non .none
 | bl (b:Bool):Den K H (.bl b) (.bool b)
 | int (i:Int):Den K H (.int i) (.int i)
 | str (x:Str) (h:PyData.strOk x=true):Den K H (.str x) (.str x)
 | lst {a:Addr} {vs:List V} {ds:List PyData}:ao K H a vs->aX K H vs ds->Den K H (.ref a) (.list ds)
 | tup {a:Addr} {vs:List V} {ds:List PyData}:au K H a vs->aX K H vs ds->Den K H (.ref a) (.tuple ds)
inductive aX (K:W.Frag) (H:Hp):List V->List PyData->Prop
 | nil:aX K H [] []
 | cons {v:V} {d:PyData} {vs:List V} {ds:List PyData}:Den K H v d->aX K H vs ds->aX K H (v::vs) (d::ds)
end
mutual
theorem Den.keep {K:W.Frag} {H H':Hp} (e:Yj H H'):∀ {v:V} {d:PyData},Den K H v d->Den K H' v d
 | _,_,.non => .non
 | _,_,.bl b => .bl b
 | _,_,.int i => .int i
 | _,_,.str x h => .str x h
 | _,_,.lst h hs => .lst (e.seq h) (hs.keep e)
 | _,_,.tup h hs => .tup (e.tup h) (hs.keep e)
theorem aX.keep {K:W.Frag} {H H':Hp} (e:Yj H H'):∀ {vs:List V} {ds:List PyData},aX K H vs ds->aX K H' vs ds
 | _,_,.nil => .nil
 | _,_,.cons h hs => .cons (h.keep e) (hs.keep e)
end
mutual
theorem Den.lay {K:W.Frag} {H:Hp}:∀ {v:V} {d:PyData},Den K H v d->d.canLay0=true
 | _,_,.non=>rfl
 | _,_,.bl b=>rfl
 | _,_,.int i=>rfl
 | _,_,.str x h=>by simpa [PyData.canLay0] using h
 | _,_,.lst _ hs=>by rw [PyData.canLay0];exact hs.lay
 | _,_,.tup _ hs=>by rw [PyData.canLay0];exact hs.lay
theorem aX.lay {K:W.Frag} {H:Hp}:∀ {vs:List V} {ds:List PyData},aX K H vs ds->PyData.canLayAll0 ds=true
 | _,_,.nil=>rfl
 | _,_,.cons h hs=>by rw [PyData.canLayAll0,h.lay,hs.lay];rfl
end
theorem aX.length {K:W.Frag} {H:Hp}:∀ {vs:List V} {ds:List PyData},aX K H vs ds->vs.length=ds.length
 | _,_,.nil=>rfl
 | _,_,.cons _ hs=>congrArg (·+1) hs.length
section
variable {X:Cx}
mutual
theorem Den.reads {pins:List (Addr×Obj)} {σ:St} {H:Hp} {s:Shared} (I:Inv X pins σ H s):∀ {v:V} {d:PyData} {u:Value},Den X.K H v d->YF v u->∃ as,Reads s.heap u d as
 | _,_,u,.non,r=>by cases (show u = .none from r);exact ⟨_,.none⟩
 | _,_,u,.bl b,r=>by cases (show u = .bool b from r);exact ⟨_,.bool b⟩
 | _,_,u,.int i,r=>by obtain ⟨t,rfl⟩:=r;exact ⟨_,.int i t⟩
 | _,_,u,.str x h,r=>by obtain ⟨t,rfl⟩:=r;exact ⟨_,.str x t⟩
 | _,_,u,.lst (a:=a) h hs,r=>by
  cases (show u = .ref a from r)
  obtain ⟨its,rv,pl,hz⟩:=I.list h;obtain ⟨as,ra⟩:=hs.reads I rv;obtain ⟨o,e1,e2,n,e3⟩:=pl.isList;exact ⟨_,.list e1 e2 e3 (by simpa using ra)⟩
 | _,_,u,.tup (a:=a) h hs,r=>by
  cases (show u = .ref a from r)
  obtain ⟨its,rv,pl,hz⟩:=I.tuple h;obtain ⟨as,ra⟩:=hs.reads I rv;obtain ⟨o,e1,e2,n,e3⟩:=(show s.heap.IsTuple a its.toArray from pl);exact ⟨_,.tuple e1 e2 e3 (by simpa using ra)⟩
theorem aX.reads {pins:List (Addr×Obj)} {σ:St} {H:Hp} {s:Shared} (I:Inv X pins σ H s):∀ {vs:List V} {ds:List PyData} {us:List Value},aX X.K H vs ds->Yx vs us->∃ as,ReadsAll s.heap us ds as
 | _,_,us,.nil,r=>by cases r;exact ⟨_,.nil⟩
 | _,_,us,.cons h hs,r=>by
  cases r with
  | cons r rr =>
   obtain ⟨as,ra⟩:=h.reads I r;obtain ⟨bs,rb⟩:=hs.reads I rr;exact ⟨_,.cons ra rb⟩
end
theorem Wu (hu:X.A.units+64<cLine):bw X (compareOp .Eq) (fun x y H Q=>∃ d e,Den X.K H x d/\Den X.K H y e/\d.depth<=64/\Q (.bl (PyData.eqv d e)) H):=by
 intro pins s σ H x y v u Q I rx ry h;obtain ⟨d,e,hd,he,dp,q⟩:=h;obtain ⟨as,ra⟩:=hd.reads I rx;obtain ⟨bs,rb⟩:=he.reads I ry;exact SeqAt.rcAt_reads ra rb hd.lay he.lay (by omega) _ _ _ _ ⟨.bl _,H,I,rfl,q⟩
end
theorem Xn {α:Type} {l:List α} {i:Nat} {x:α} (h:l[i]?=some x):l.take (i+1)=l.take i++[x]:=by
 obtain ⟨hi,hc⟩:=List.getElem?_eq_some_iff.mp h;rw [List.take_succ_eq_append_getElem hi,hc]
theorem Hg {J:It} {P:Hp->Prop} {xs:List V} (hJ:Wr J P xs) {src:List (Option Nat)} {te:TE} {σ:St} {H1:Hp} {Q:VK} {D:Addr} (ys:List V) (hP:∀ H',Yj H1 H'->P H') (hD:H1 D=none) (hl:ys.length=xs.length) (hlen:xs.length<=100000)
  (step:∀ (i:Nat) x y H',xs[i]?=some x->ys[i]?=some y->Yj H1 H'->∀ R:VK,(∀ aK,Yj H' aK->R y aK)->te (some x::YI src σ) H' R)
  (fin:∀ H',Yj H1 H'->H' D=some (.lst ys)->Q (.ref D) H'):LC (none::src) J (YG 0) Wa te σ H1 Q D:=by
 have h6:100000<sizeLine:=by decide
 refine Vy hJ (fun i zs σ' H'=>zs=ys.take i/\(∃ o,σ'=o::YI src σ)/\Yj H1 H'/\H' D=some (.lst zs)) ⟨by simp,⟨none,rfl⟩,.aj hD _,Yd⟩ (fun i zs σ' H' p=>⟨hP _ p.2.2.1,p.2.2.2⟩) (X3 0) ?_ ?_
 ·rintro i zs σ' H' x hx ⟨rfl,⟨o,rfl⟩,sm,hd⟩
  have hi:=(List.getElem?_eq_some_iff.mp hx).1;have hy:ys[i]?=some (ys[i]'(by omega)):=List.getElem?_eq_getElem _
  show te (some x::YI src σ) H' _
  refine step i x _ H' hx hy sm _ fun aK s2=>⟨s2 _ _ hd,?_,(Xn hy).symm,⟨_,rfl⟩,.cO hD (sm.trans s2) _,Yd⟩
  rw [List.length_take];omega
 ·rintro zs σ' H' ⟨rfl,_,sm,hd⟩
  rw [<- hl,List.take_length] at hd
  exact fin H' sm hd
theorem U7 (K:W.Frag) (i j:Nat):∀ x σ H Q Q',(∀ σ' H',Q σ' H'->Q' σ' H')->VF K 2 (Xz (YG i) (Xz (YG j) V6)) x σ H Q->VF K 2 (Xz (YG i) (Xz (YG j) V6)) x σ H Q':=by
 rintro x σ H Q Q' h ⟨a,xs,e,sq,l,v,r,e1,v2,r2,e2,e3,q⟩;exact ⟨a,xs,e,sq,l,v,r,e1,v2,r2,e2,e3,h _ _ q⟩
end L2
namespace L2
open PySem PySem.Spec PyProof.Rows
section
variable {a b c d e r:TS} {D:Ends} {σ:St} {H:Hp} (M:St->Hp->Prop) (h1:∀ σ H,M σ H->r D σ H)
include h1
theorem QQ (h2:∀ N:St->Hp->Prop,(∀ σ H,M σ H->N σ H)->a { D with nx:=N } σ H):Qa a r D σ H:=h2 (r D) h1
end
theorem Tz (i j:Int):pF (.int i) (.int j)=true:=rfl
theorem Xj (i j:Str):pF (.str i) (.str j)=true:=rfl
theorem Xq {α:Type} {c:TT} {tb:TS} {D:Ends} {σ:St} {H:Hp} (Pv:α->St->Hp->Prop) (cond:α->Bool) (μ:α->Nat) (a₀:α) (h0:Pv a₀ σ H)
  (hc:∀ a σ H,Pv a σ H->∀ R:Bool->Hp->Prop,(∀ H',Pv a σ H'->R (cond a) H')->c σ H R)
  (hb:∀ a σ H,Pv a σ H->cond a=true->tb { D with nx:=fun σ' H'=>∃ a',Pv a' σ' H'/\μ a'<μ a,ct:=fun σ' H'=>∃ a',Pv a' σ' H'/\μ a'<μ a,bk:=D.nx } σ H)
  (hd:∀ a σ H,Pv a σ H->cond a=false->D.nx σ H):Ft c tb D σ H:=by
 refine ⟨fun m σ H=>∃ a,m=μ a/\Pv a σ H,⟨_,a₀,rfl,h0⟩,?_⟩;rintro m σ H ⟨a,rfl,p⟩;refine hc a σ H p _ fun H' p'=>?_
 cases e:cond a with
 | true=>exact ⟨_,fun σ' H' ⟨a',q,l⟩=>⟨_,l,a',rfl,q⟩,hb a σ H' p' e⟩
 | false=>exact hd a σ H' p' e
section
variable {X:Cx} {tg:Expr}
def wZ (hi:Int) (n:Nat):It:=⟨fun i _=>i<n,fun i H x H'=>H'=H/\x = .int (hi - i),fun i _=>n<=i⟩
theorem TF {P:Program} {w:World} {K:PySem.W.Frag} {tg:Expr} (it:Addr) (hi:Int) (n:Nat):Turn P w K tg (wZ hi n) [it] it (fun i h=>IsRangeIter h it (hi+(i:Nat)*(-1)) ((n:Int) - (i:Nat)) (-1)) where
 mem:=by simp
 obj:=fun i h st b hb=>by
  have e:b=it:=by simpa using hb
  subst e;exact ⟨_,st,fun v z=>by
   have z':Data.fields _=Data.cell v:=z
   cases z'⟩
 keep:=fun i h h' st k=>k it (by simp) _ st
 item:=by
  intro X hP hw hK hc i pins s σ H E I hf st hg;subst hP hw hK;obtain ⟨f0,f1,f2,f3,f4,f5⟩:=hf it (by simp);have W:=Walks.range (prog:=X.prog) (w:=X.w) (I.ok.hd hc) it hi (-1) n;refine W.item i s _ _ hg st fun v h' tk hv st' kk=>?_
  obtain ⟨t,rfl⟩:=hv;have I1:Inv X pins σ H { s with heap:=h',toks:=tk }:=I.turned (fun b o hb e=>kk b o (by simpa using hb) e) f0 f1 f3 f4 f5;refine ⟨_,rfl,tV (s:={ s with heap:=h',toks:=tk }) (n:="range_iterator") st' rfl rfl (by decide) ⟨.int (hi - i),H,I1,⟨t,?_⟩,⟨rfl,rfl⟩,st',fun b hb=>(hf b hb).1⟩⟩;have:hi+(i:Int) * -1=hi - i:=by omega
  rw [this]
 done:=by
  intro X hP hw hK hc i pins s σ H E I hf st hg;subst hP hw hK;obtain ⟨f0,f1,f2,f3,f4,f5⟩:=hf it (by simp);exact wpAny_pyNext_range_end (I.ok.hd hc) st (by have:n<=i:=hg;omega) fun h' eb=>⟨rfl,I.turned (t':=s.toks) (fun b o hb e=>eb b o hb e) f0 f1 f3 f4 f5⟩
 self:=fun _ _ _ _ _ st h=>wpAny_pyIter_rangeiter st h
theorem TJ {a b:Int} (ha : -(2^62)<=a) (ha':a<2^62) (hb : -(2^62)<=b) (hb':b<2^62):Builtin.Range.small a b (-1)=true:=by
 have e:Builtin.Range.rangeSize a b (-1)=if a>b then a - b else 0:=by unfold Builtin.Range.rangeSize;simp
 unfold Builtin.Range.small;rw [e];simp only [Builtin.Range.rangeFitsLong,Bool.and_eq_true,Bool.or_eq_true,decide_eq_true_eq,beq_iff_eq,show ¬ ((-1:Int)>0) by decide,if_false]
 split<;>omega
theorem TQ {pins:List (Addr×Obj)} {σ:St} {H:Hp} {s:Shared} {R:It->Hp->Prop} {E:Value->Shared->Prop} {lo hi:Int} {t u v:Tok} {tk:Nat} (I:Inv X pins σ H s) (h1 : -(2^62)<=lo) (h2:lo<2^62) (h3 : -(2^62)<=hi) (h4:hi<2^62)
  (q:R (wZ lo (lo - hi).toNat) H):wpAny (model X.prog X.w) X.A (pyIter (.ref s.heap.objs.size)) (PIE X pins σ tg R) E { s with heap:=s.heap.push { cls := .type "range",data := .fields #[.int lo t,.int hi u,.int (-1) v] },toks:=tk }:=by
 refine wpAny_pyIter_range (IsRange.new ..) (TJ h1 h2 h3 h4) ?_;have I1:Inv X pins σ H { s with heap:=s.heap.push { cls := .type "range",data := .fields #[.int lo t,.int hi u,.int (-1) v] },toks:=tk }:=I.kept fun b o e=>Heap.get?_push_of_some _ e
 refine ⟨(s.heap.push { cls := .type "range",data := .fields #[.int lo t,.int hi u,.int (-1) v] }).objs.size,[(s.heap.push { cls := .type "range",data := .fields #[.int lo t,.int hi u,.int (-1) v] }).objs.size],_,_,H,rfl,
  I1.kept (t':=tk) fun b o e=>Heap.get?_push_of_some _ e,TF _ lo (lo - hi).toNat,?_,fun b hb=>?_,q⟩
 ·have e1:lo+((0:Nat):Int)*(-1)=lo:=by simp
  have e2:(((lo - hi).toNat:Nat):Int) - ((0:Nat):Int)=Builtin.Range.rangeSize lo hi (-1):=by unfold Builtin.Range.rangeSize;simp;split<;>omega
  show IsRangeIter _ _ (lo+((0:Nat):Int)*(-1)) ((((lo - hi).toNat:Nat):Int) - ((0:Nat):Int)) (-1)
  rw [e1,e2];exact Heap.get?_push_size _ rfl
 ·have e:b=(s.heap.push { cls := .type "range",data := .fields #[.int lo t,.int hi u,.int (-1) v] }).objs.size:=by simpa using hb
  subst e;exact I1.fC (Nat.le_refl _) (I1.hok.fresh (Nat.le_refl _))
def Hh (ta:TA):TI:=fun σ H R=>ta σ H fun vs H1=>∃ i j:Int,vs=[.int i,.int j,.int (-1)]/\(-(2^62)<=i/\i<2^62 /\ -(2^62)<=j/\j<2^62)/\R (wZ i (i - j).toNat) H1
theorem TV {a b c:Expr} {ta:TA} {p pos:Pos} (hg:Gl X "range") (hm:X.mg "range"=none) (ha:PA X [a,b,c] ta) (hs:starEach [a,b,c] X.env=[(false,eval a X.env),(false,eval b X.env),(false,eval c X.env)]) (hs2:starEach [b,c] X.env=[(false,eval b X.env),(false,eval c X.env)]) :
  PI X tg (.Call (.Name "range" p) [a,b,c] [] pos) (Hh ta):=by
 intro pins s σ H R I h;refine Call_ (Wl I hg hm boot_range (PyProof.Rows.callWith_type1 (aG (ha pos pins s σ H _ I h) fun us s1 ⟨vs,H1,I1,r1,q1⟩=>?_) (by rw [hs,hs2]) (by rw [hs2];rfl)));obtain ⟨i,j,e,⟨q1,q2,q3,q4⟩,q⟩:=q1;subst e
 cases r1 with
 | cons r rr =>
  cases rr with
  | cons r' rr =>
   cases rr with
   | cons r'' rr =>
    cases rr
    obtain ⟨t,rfl⟩:=r;obtain ⟨t',rfl⟩:=r';obtain ⟨t'',rfl⟩:=r'';exact call_range_3 (by decide) (TQ I1 q1 q2 q3 q4 q) (.inl (PyProof.noPylong_small (by decide)))
end
theorem TX {g:TG} {tb:TS} {D:Ends} {σ:St} {H:Hp} {K:W.Frag} {tl:TE} {xs:List V} (Pv:Addr->Nat->St->Hp->Prop) (ha:∀ R:V->Hp->Prop,(∀ c H1,Pv c 0 σ H1->R (.ref c) H1)->tl σ H R) (hl:∀ c i σ H,i<=xs.length->Pv c i σ H->ao K H c xs)
  (hs:∀ c (i:Nat) x σ H,xs[i]?=some x->Pv c i σ H->g x σ H fun σ2 H2=>tb { D with nx:=Pv c (i+1),ct:=Pv c (i+1),bk:=D.nx } σ2 H2) (hd:∀ c σ H,Pv c xs.length σ H->D.nx σ H):QM (W0 K tl) g tb D σ H:=by
 refine ha _ fun c H1 h0=>⟨c,rfl,⟨xs,hl c 0 σ H1 (Nat.zero_le _) h0⟩,?_⟩
 exact Fv (Pv c) h0 (hl c) (hs c) (hd c)
section
variable {src:List (Option Nat)} {te:TE} {σ:St} {H:Hp} {Q:VK}
theorem VC {K:W.Frag} {tl:TE} {xs:List V} (ys:List V) (ha:∀ R:V->Hp->Prop,(∀ a H1,Yj H H1->ao K H1 a xs->R (.ref a) H1)->tl σ H R) (hl:ys.length=xs.length) (hlen:xs.length<=100000)
  (step:∀ (i:Nat) x y H',xs[i]?=some x->ys[i]?=some y->Yj H H'->∀ R:VK,(∀ aK,Yj H' aK->R y aK)->te (some x::YI src σ) H' R)
  (fin:∀ D H',H D=none->Yj H H'->H' D=some (.lst ys)->Q (.ref D) H'):d7 (none::src) (W0 K tl) (YG 0) Wa te σ H Q :=
 ha _ fun a H1 s1 hS=>⟨a,rfl,⟨xs,hS⟩,fun D hD=>Hg (Ws.imp fun H' (e:Yj H1 H')=>e.seq hS) ys (fun _ e=>e) hD hl hlen (fun i x y H' hx hy sm R r=>step i x y H' hx hy (s1.trans sm) R r) fun H' sm=>fin D H' (s1.free hD) (s1.trans sm)⟩
theorem TY {J:It} {P:Hp->Prop} {xs:List V} (hJ:Wr J P xs) {tt:TT} {H1:Hp} {D:Addr} (p:V->Bool) (f:V->V) (hP:∀ H',Yj H1 H'->P H') (hD:H1 D=none) (hlen:xs.length<=100000)
  (test:∀ x H',x∈xs->Yj H1 H'->∀ R:Bool->Hp->Prop,(∀ aK,Yj H' aK->R (p x) aK)->tt (some x::YI src σ) H' R)
  (step:∀ x H',x∈xs->p x=true->Yj H1 H'->∀ R:VK,(∀ aK,Yj H' aK->R (f x) aK)->te (some x::YI src σ) H' R)
  (fin:∀ H',Yj H1 H'->H' D=some (.lst ((xs.filter p).map f))->Q (.ref D) H'):LC (none::src) J (YG 0) tt te σ H1 Q D:=by
 have h6:100000<sizeLine:=by decide
 refine GX hJ (fun i zs σ' H'=>zs=((xs.take i).filter p).map f/\(∃ o,σ'=o::YI src σ)/\Yj H1 H'/\H' D=some (.lst zs)) ⟨by simp,⟨none,rfl⟩,.aj hD _,Yd⟩ (fun i zs σ' H' q=>⟨hP _ q.2.2.1,q.2.2.2⟩) ?_ ?_
 ·rintro i zs σ' H' x hx ⟨rfl,⟨o,rfl⟩,sm,hd⟩
  have hi:=(List.getElem?_eq_some_iff.mp hx).1;have hm:=List.mem_of_getElem? hx
  show tt (some x::YI src σ) H' _
  refine test x H' hm sm _ fun H2 s2=>?_
  cases e:p x with
  | true =>
   refine Qb ?_;refine step x H2 hm e (sm.trans s2) _ fun H3 s3=>⟨s3 _ _ (s2 _ _ hd),?_,?_,⟨_,rfl⟩,.cO hD ((sm.trans s2).trans s3) _,Yd⟩
   ·have h7:=List.length_filter_le p (xs.take i)
    rw [List.length_map];rw [List.length_take] at h7
    omega
   ·rw [Xn hx,List.filter_append,List.map_append]
    simp [List.filter,e]
  | false =>
   refine N6 ?_;refine ⟨?_,⟨_,rfl⟩,sm.trans s2,s2 _ _ hd⟩;rw [Xn hx,List.filter_append];simp [List.filter,e]
 ·rintro zs σ' H' ⟨rfl,_,sm,hd⟩
  rw [List.take_length] at hd
  exact fin H' sm hd
theorem T6 {K:W.Frag} {tl:TE} {tt:TT} {xs:List V} (p:V->Bool) (f:V->V) (ha:∀ R:V->Hp->Prop,(∀ a H1,Yj H H1->ao K H1 a xs->R (.ref a) H1)->tl σ H R) (hlen:xs.length<=100000)
  (test:∀ x H',x∈xs->Yj H H'->∀ R:Bool->Hp->Prop,(∀ aK,Yj H' aK->R (p x) aK)->tt (some x::YI src σ) H' R)
  (step:∀ x H',x∈xs->p x=true->Yj H H'->∀ R:VK,(∀ aK,Yj H' aK->R (f x) aK)->te (some x::YI src σ) H' R)
  (fin:∀ D H',H D=none->Yj H H'->H' D=some (.lst ((xs.filter p).map f))->Q (.ref D) H'):d7 (none::src) (W0 K tl) (YG 0) tt te σ H Q :=
 ha _ fun a H1 s1 hS=>⟨a,rfl,⟨xs,hS⟩,fun D hD=>TY (Ws.imp fun H' (e:Yj H1 H')=>e.seq hS) p f (fun _ e=>e) hD hlen (fun x H' hx sm R r=>test x H' hx (s1.trans sm) R r) (fun x H' hx hp sm R r=>step x H' hx hp (s1.trans sm) R r) fun H' sm=>fin D H' (s1.free hD) (s1.trans sm)⟩
end
section
variable {X:Cx} {K:W.Frag}
theorem T7 (h:X.K=K:=by rfl):ug X (um K):=by subst h;exact Ys
end
section
variable {X:Cx} {e st:Expr} {te ts:TE} {pos p2:Pos}
def w6 (K:W.Frag) (te ts:TE):TE:=fun σ H Q=>te σ H fun x H1=>ts σ H1 fun y H2=>y = .int (-1)/\∃ a xs,x = .ref a/\ao K H2 a xs/\∀ p,H2 p=none->Q (.ref p) (upd H2 p (.lst xs.reverse))
end
section
variable {X:Cx} {pos:Pos}
def xg:V->List V->Hp->VK->Prop:=fun x vs H Q=>∃ i,x = .int i/\vs=[]/\Q (.int (Builtin.Int.intBits i:Nat)) H
theorem T8:uh X "int.bit_length" xg:=by
 intro pins s σ H x vs v us Q I rx r h;obtain ⟨i,rfl,rfl,q⟩:=h;obtain ⟨t,rfl⟩:=rx
 cases r
 exact call_gives F.slot_int_bit_length (typeIs_int s i t) F.entry_int_bit_length (F.args_int_bit_length_1 _) (AutoIntG2.int_bit_length_int_0 i t) ⟨.int _,H,I.tok _,⟨_,rfl⟩,q⟩
def Hi:V->List V->Hp->VK->Prop:=fun x vs H Q=>∃ (z y:Str),x = .str z/\vs=[.str y]/\Q (.int (Txt.find z y)) H
def Hj:TE:=fun _ H Q=>∀ p,H p=none->Q (.ref p) (upd H p (.dK []))
end
def Gx.cj (g:Gx) (x:Str) (xs:List V):Prop:=∃ c,g.mg x=some (.ref c)/\∀ H,au g.K H c xs
theorem VP {K:W.Frag} {h:Heap} {mg:Str->Option Value} {x:Str} {i:Addr} {dc:Option Addr} {its:Array Value} {n:Nat} {sl:Array (Option Value)} {xs:List V} (X:K.In h) (G:h.Ns mainGlobals mg)
  (a:W.nsIn K mainGlobals x=some (some (.ref i))) (l:K.lookup i=some ⟨.type "tuple",dc,.seq its n,sl⟩) (hz:its.size<=sizeLine) (r:Yx xs its.toList):∀ P w base,(Gx.mk P w K mg base).cj x xs :=
 fun P w base=>⟨i,W.mg_of X G a,fun H => .inr ⟨_,its,n,l,rfl,rfl,hz,r⟩⟩
section
variable {X:Cx} {g:Gx} {x:Str} {pos:Pos}
def uH (K:W.Frag) (xs:List V):TE:=fun _ H Q=>∀ c,au K H c xs->Q (.ref c) H
theorem W2 {xs:List V} (F:g.cj x xs) (hX:X.gx=g) (hg:Gl X x) (hd:(x==("__debug__":Str))=false):PE X (.Name x pos) (uH g.K xs):=by
 subst hX;obtain ⟨c,e,hc⟩:=F;exact fun pins s σ H Q I h=>QL hg e (show YF (.ref c) (.ref c) from rfl) hd pins s σ H Q I (h c (hc H))
end
theorem XG {c A B:Prop} [Decidable c] (h:¬ c) (hb:B):if c then A else B:=by rw [if_neg h];exact hb
theorem WY {c A B:Prop} [Decidable c] (h:c) (ha:A):if c then A else B:=by rw [if_pos h];exact ha
section
variable {X:Cx}
def Eh (i j:Int):Prop:=uG i j\/rQ i j
theorem QR:bw X (binaryOp .Mult) (rI Eh fun i j => .int (i*j)):=mH fun _ _ _ _ _ _ _ hc q=>mul_int q (hc.elim (fun h=>h.ok) fun h=>h.ok)
end
abbrev WQ (h:Heap) (z TI TO:Addr) (f0:Value) (f1:Bool):Prop :=
 h.get? z=some { cls := .type "zip",dict:=none,data := .fields #[f0,.bool f1,.bool false,.ref TI,.ref TO],slots:=#[] }
section
variable {prog:Program} {w:World} {A:Around} {E:Value->Shared->Prop} {s:Shared} {z TI TO i1 i2 T:Addr} {S1 S2:Nat->Heap->Prop} {R1 R2:Heap->(Nat->Option Value)->Prop} {g1 g2:Nat->Option Value} {k:Nat} {a b:Value} {f:Bool} {oT:Obj}
theorem T9 {x y:Value} {Q:Option Value->Shared->Prop} (D:cD z TI TO i1 i2) (U1:Sub prog w i1 S1 R1) (U2:Sub prog w i2 S2 R2)
  (k1:∀ h h' g,R1 h g->(∀ c o,c≠z->c≠TO->c≠i1->c≠i2->h.get? c=some o->h'.get? c=some o)->R1 h' g) (k2:∀ h h' g,R2 h g->(∀ c o,c≠z->c≠TO->c≠i1->c≠i2->h.get? c=some o->h'.get? c=some o)->R2 h' g)
  (hz:WQ s.heap z TI TO (rawInt T) f) (hTI:IsPair s.heap TI (.ref i1) (.ref i2)) (hT:s.heap.get? T=some oT) (h1:S1 k s.heap) (h2:S2 k s.heap) (r1:R1 s.heap g1) (r2:R2 s.heap g2) (hx:g1 k=some x) (hy:g2 k=some y)
  (hQ:∀ h' tk,WQ h' z TI TO (rawInt T) true->S1 (k+1) h'->S2 (k+1) h'->IsPair h' s.heap.objs.size x y->h'.objs.size=s.heap.objs.size+1 ->
   (∀ c o,c≠z->c≠i1->c≠i2->s.heap.get? c=some o->h'.get? c=some o)->Q (some (.ref s.heap.objs.size)) { s with heap:=h',toks:=tk }) :
  wpAny (model prog w) A (pyNext (.ref z)) Q E s:=by
 have hTy:s.TypeIs (.ref z) "zip":=⟨_,hz,rfl⟩;unfold pyNext;refine wpAny_bind (wpAny_attempt (wpAny_callSpecial?_slot (name:=Str.ofString "__next__") hTy F.slot_zip_next (wpAny_call_entry F.slot_zip_next hTy F.entry_zip_next ?_ (F.args_zip_next_1 _))))
 show wpAny _ _ (field (.ref z) 2 >>= _) _ _ _
 refine wpAny_bind (wpAny_field hz rfl (x := .bool false) rfl ?_)
 show wpAny _ _ (field (.ref z) 3 >>= _) _ _ _
 refine wpAny_bind (wpAny_field hz rfl (x := .ref TI) rfl ?_);refine wpAny_bind (wpAny_seqItems hTI rfl ?_)
 show wpAny _ _ (Builtin.SmallTypes.ownedTupleIsFree (.ref z) >>= _) _ _ _
 refine wpAny_bind ?_;unfold Builtin.SmallTypes.ownedTupleIsFree;refine wpAny_bind (wpAny_field hz rfl (x:=rawInt T) rfl ?_)
 show wpAny _ _ (loadIfAlive ((T:Int).toNat) >>= _) _ _ _
 rw [Int.toNat_natCast];refine wpAny_bind (PySem.W.kdx_alive hT ?_);simp only [Option.isNone_some,Bool.false_eq_true,if_false];refine wpAny_bind (wpAny_field hz rfl (x := .bool f) rfl ?_);have step:∀ (P:Bool->Shared->Prop) (E':Value->Shared->Prop),(∀ h₀:Heap,WQ h₀ z TI TO (rawInt T) true->Heap.SameBut z s.heap h₀->P false { s with heap:=h₀ }) ->
   wpAny (model prog w) A.in1 (if (Value.bool f != Value.bool true)=true then do setField (Value.ref z) 1 (Value.bool true);pure false else pure false) P E' s:=by
  intro P E' h
  cases f with
  | true =>
   rw [if_neg (show ¬ ((Value.bool true != Value.bool true)=true) from Bool.false_ne_true)];exact wpAny_pure (h s.heap hz (Heap.SameBut.refl _ _))
  | false =>
   rw [if_pos (show (Value.bool false != Value.bool true)=true from rfl)];exact wpAny_bind (wpAny_setField_rec hz (by simp) fun h₃ he₃ hs₃=>wpAny_pure (h h₃ he₃ hs₃))
 refine step _ _ fun h₀ uI hs₀=>?_
 simp only [Bool.false_eq_true,if_false];have nM:S1 k h₀:=U1.keep _ _ _ h1 fun o e=>hs₀.extBut _ _ D.c e
 have nP:R1 h₀ g1:=k1 _ _ _ r1 fun c o c1 _ _ _ e=>hs₀.extBut _ _ c1 e
 rw [<- Array.forIn_toList];simp only [List.forIn_cons,List.forIn_nil];refine wpAny_bind (wpAny_bind (wpAny_bind (wpAny_holding ?_)))
 show wpAny _ _ (Builtin.SmallTypes.nextOf (.ref i1) >>= _) _ _ _
 refine wpAny_bind (U1.item _ k { s with heap:=h₀ } g1 x _ _ nM nP hx fun h₂ tk₂ jf hs₂=>wpAny_pure ?_);have kk₂:∀ c o,c≠z->c≠i1->s.heap.get? c=some o->h₂.get? c=some o:=fun c o c1 c3 e=>hs₂.extBut _ _ c3 (hs₀.extBut _ _ c1 e)
 refine wpAny_pure ?_;dsimp only;have Ei:S2 k h₂:=U2.keep _ _ _ h2 fun o e=>hs₂.extBut _ _ D.j.symm (hs₀.extBut _ _ D.d e)
 refine wpAny_bind (wpAny_bind (wpAny_holding ?_))
 show wpAny _ _ (Builtin.SmallTypes.nextOf (.ref i2) >>= _) _ _ _
 refine wpAny_bind (U2.item _ k { s with heap:=h₂,toks:=tk₂ } g2 y _ _ Ei (k2 _ _ _ r2 fun c o c1 c2 c3 c4 e=>kk₂ c o c1 c3 e) hy fun h₄ tk₄ nJ hs₄=>wpAny_pure ?_);refine wpAny_pure (wpAny_pure ?_);dsimp only;refine wpAny_bind (wpAny_newTuple ?_ (show (2:Nat)<=sizeLine by decide));have hsz:h₄.objs.size=s.heap.objs.size:=by rw [hs₄.1,hs₂.1,hs₀.1]
 have hz₄:WQ h₄ z TI TO (rawInt T) true:=hs₄.extBut _ _ D.d.symm (hs₂.extBut _ _ D.c.symm uI);refine wpAny_pure ⟨_,rfl,wpAny_pure ?_⟩
 show Q (some (.ref h₄.objs.size)) _
 have Ej:=hQ (h₄.push { cls := .type "tuple",data := .seq #[x,y] }) tk₄ (Heap.get?_push_of_some _ hz₄) (U1.keep _ _ _ jf fun o e=>Heap.get?_push_of_some _ (hs₄.extBut _ _ D.j e)) (U2.keep _ _ _ nJ fun o e=>Heap.get?_push_of_some _ e)
  (by rw [<- hsz];exact Heap.get?_push_size _ rfl) (by rw [Heap.size_push,hsz]) fun c o c1 c3 c4 e=>Heap.get?_push_of_some _ (hs₄.extBut _ _ c4 (kk₂ c o c1 c3 e))
 rw [hsz];exact Ej
theorem Ybv {Q:Option Value->Shared->Prop} (hh:A.handled=none) (D:cD z TI TO i1 i2) (U1:Sub prog w i1 S1 R1) (U2:Sub prog w i2 S2 R2)
  (k1:∀ h h' g,R1 h g->(∀ c o,c≠z->c≠TO->c≠i1->c≠i2->h.get? c=some o->h'.get? c=some o)->R1 h' g)
  (hz:WQ s.heap z TI TO (rawInt T) f) (hTI:IsPair s.heap TI (.ref i1) (.ref i2)) (hT:s.heap.get? T=some oT) (h1:S1 k s.heap) (r1:R1 s.heap g1) (hend:g1 k=none)
  (hQ:∀ h' tk,(∀ c o,c≠z->c≠i1->c≠i2->s.heap.get? c=some o->h'.get? c=some o)->Q none { s with heap:=h',toks:=tk }):wpAny (model prog w) A (pyNext (.ref z)) Q E s:=by
 have hTy:s.TypeIs (.ref z) "zip":=⟨_,hz,rfl⟩;unfold pyNext;refine wpAny_bind (wpAny_attempt (wpAny_callSpecial?_slot (name:=Str.ofString "__next__") hTy F.slot_zip_next (wpAny_call_entry F.slot_zip_next hTy F.entry_zip_next ?_ (F.args_zip_next_1 _))))
 show wpAny _ _ (field (.ref z) 2 >>= _) _ _ _
 refine wpAny_bind (wpAny_field hz rfl (x := .bool false) rfl ?_)
 show wpAny _ _ (field (.ref z) 3 >>= _) _ _ _
 refine wpAny_bind (wpAny_field hz rfl (x := .ref TI) rfl ?_);refine wpAny_bind (wpAny_seqItems hTI rfl ?_)
 show wpAny _ _ (Builtin.SmallTypes.ownedTupleIsFree (.ref z) >>= _) _ _ _
 refine wpAny_bind ?_;unfold Builtin.SmallTypes.ownedTupleIsFree;refine wpAny_bind (wpAny_field hz rfl (x:=rawInt T) rfl ?_)
 show wpAny _ _ (loadIfAlive ((T:Int).toNat) >>= _) _ _ _
 rw [Int.toNat_natCast];refine wpAny_bind (PySem.W.kdx_alive hT ?_);simp only [Option.isNone_some,Bool.false_eq_true,if_false];refine wpAny_bind (wpAny_field hz rfl (x := .bool f) rfl ?_);have step:∀ (P:Bool->Shared->Prop) (E':Value->Shared->Prop),(∀ h₀:Heap,WQ h₀ z TI TO (rawInt T) true->Heap.SameBut z s.heap h₀->P false { s with heap:=h₀ }) ->
   wpAny (model prog w) A.in1 (if (Value.bool f != Value.bool true)=true then do setField (Value.ref z) 1 (Value.bool true);pure false else pure false) P E' s:=by
  intro P E' h
  cases f with
  | true =>
   rw [if_neg (show ¬ ((Value.bool true != Value.bool true)=true) from Bool.false_ne_true)];exact wpAny_pure (h s.heap hz (Heap.SameBut.refl _ _))
  | false =>
   rw [if_pos (show (Value.bool false != Value.bool true)=true from rfl)];exact wpAny_bind (wpAny_setField_rec hz (by simp) fun h₃ he₃ hs₃=>wpAny_pure (h h₃ he₃ hs₃))
 refine step _ _ fun h₀ uI hs₀=>?_
 simp only [Bool.false_eq_true,if_false];have nM:S1 k h₀:=U1.keep _ _ _ h1 fun o e=>hs₀.extBut _ _ D.c e
 have nP:R1 h₀ g1:=k1 _ _ _ r1 fun c o c1 _ _ _ e=>hs₀.extBut _ _ c1 e
 rw [<- Array.forIn_toList];simp only [List.forIn_cons,List.forIn_nil];refine wpAny_bind (wpAny_bind (wpAny_bind (wpAny_holding ?_)))
 show wpAny _ _ (Builtin.SmallTypes.nextOf (.ref i1) >>= _) _ _ _
 refine wpAny_bind (U1.fin _ k { s with heap:=h₀ } g1 _ _ hh nM nP hend fun h₂ e hs₂ he=>?_);obtain ⟨oe,hoe,hce⟩:=he;refine wpAny_bind (wpAny_isInstance (T:="StopIteration") (b:=true) ⟨oe,hoe,hce⟩ isSubtype_stop ?_);exact wpAny_pure (hQ h₂ s.toks fun c o c1 c3 c4 x=>hs₂ _ _ c3 (hs₀.extBut _ _ c1 x))
end
section
variable {prog:Program} {w:World} {A:Around} {s:Shared} {R:Result->Shared->Prop} {z TI TO i1 i2 S p1 p2:Addr} {xs ys:List Value}
def ZSt (h:Heap) (z TI TO i1 i2 p1 p2:Addr) (i:Nat) (as:List Addr):Prop :=
 IsPair h TI (.ref i1) (.ref i2)/\h.IsTupleIter i1 p1 i/\h.IsTupleIter i2 p2 i/\((i=0/\IsZip h z TI TO .none/\∃ a b,IsPair h TO a b)\/∃ T f,T∈as/\WQ h z TI TO (rawInt T) f)
theorem Ye1 (hh:A.handled=none) (D:cD z TI TO i1 i2) (lo:Nat) (hlo:z<lo/\TI<lo/\TO<lo/\i1<lo/\i2<lo/\S<lo/\p1<lo/\p2<lo) (nS:S∉[z,TI,TO,i1,i2,p1,p2]) (n1:p1∉[z,TO,i1,i2]) (n2:p2∉[z,TO,i1,i2]) (hl:xs.length=ys.length) (hn:xs.length<=sizeLine) (res:Value) {h₁:Heap}
  (hR:∀ (h':Heap) (tk:Nat) (acc:Array Value) (c:Nat) (as:List Addr),(∀ b o,b∉[S,z,TO,i1,i2]->h₁.get? b=some o->h'.get? b=some o)->h'.get? S=some { cls := .type "list",dict:=none,data := .seq acc c,slots:=#[] }->as.length=xs.length->acc.toList=as.map Value.ref ->
   as.Pairwise (·<·)->(∀ a∈as,lo<=a)->(∀ (j:Nat) a x y,as[j]?=some a->xs[j]?=some x->ys[j]?=some y->IsPair h' a x y)->R (.ok (.ret res)) { s with heap:=h',toks:=tk }) :
  ∀ (k i:Nat) (h:Heap) (tk c:Nat) (acc:Array Value) (as:List Addr),xs.length - i=k->i<=xs.length->ZSt h z TI TO i1 i2 p1 p2 i as->h.IsTuple p1 xs.toArray->h.IsTuple p2 ys.toArray->(∀ b o,b∉[S,z,TO,i1,i2]->h₁.get? b=some o->h.get? b=some o) ->
   h.get? S=some { cls := .type "list",dict:=none,data := .seq acc c,slots:=#[] }->acc.toList=as.map Value.ref->as.length=i->as.Pairwise (·<·)->(∀ a∈as,lo<=a/\a<h.objs.size)->(∀ (j:Nat) a x y,as[j]?=some a->xs[j]?=some x->ys[j]?=some y->IsPair h a x y)->lo<=h.objs.size ->
   codeAny (model prog w) A (.builtin "list.extend.loop" ⟨[.ref S,.ref z,res],[]⟩) R { s with heap:=h,toks:=tk }:=by
 intro k;have nz:S≠z:=fun e=>nS (by simp [e])
 have nTI:S≠TI:=fun e=>nS (by simp [e])
 have Hl:S≠TO:=fun e=>nS (by simp [e])
 have xq:S≠i1:=fun e=>nS (by simp [e])
 have xr:S≠i2:=fun e=>nS (by simp [e])
 have np1:S≠p1:=fun e=>nS (by simp [e])
 have np2:S≠p2:=fun e=>nS (by simp [e])
 have q1:p1≠z/\p1≠TO/\p1≠i1/\p1≠i2:=⟨fun e=>n1 (by simp [e]),fun e=>n1 (by simp [e]),fun e=>n1 (by simp [e]),fun e=>n1 (by simp [e])⟩;have q2:p2≠z/\p2≠TO/\p2≠i1/\p2≠i2:=⟨fun e=>n2 (by simp [e]),fun e=>n2 (by simp [e]),fun e=>n2 (by simp [e]),fun e=>n2 (by simp [e])⟩;have big:∀ {a:Addr},lo<=a->a≠z/\a≠TO/\a≠i1/\a≠i2/\a≠S:=fun {a} ha=>by
  obtain ⟨l1,l2,l3,l4,l5,l6,_⟩:=hlo;refine ⟨?_,?_,?_,?_,?_⟩<;>(intro e;subst e;exact absurd ha (Nat.not_le.mpr (by assumption)))
 have nQ:∀ h:Heap,h.IsTuple p1 xs.toArray->∃ items:Array Value,h.IsTuple p1 items/\∀ k:Nat,(fun k:Nat=>xs[k]?) k=items[k]?:=fun h e=>⟨_,e,fun (k:Nat)=>by simp⟩
 have sJ:∀ h:Heap,h.IsTuple p2 ys.toArray->∃ items:Array Value,h.IsTuple p2 items/\∀ k:Nat,(fun k:Nat=>ys[k]?) k=items[k]?:=fun h e=>⟨_,e,fun (k:Nat)=>by simp⟩
 have uJ:∀ (h h':Heap) (g:Nat->Option Value),(∃ items:Array Value,h.IsTuple p1 items/\∀ k,g k=items[k]?)->(∀ c o,c≠z->c≠TO->c≠i1->c≠i2->h.get? c=some o->h'.get? c=some o)->∃ items:Array Value,h'.IsTuple p1 items/\∀ k,g k=items[k]? :=
  fun h h' g ⟨items,⟨o,e,r⟩,q⟩ k=>⟨items,⟨o,k _ o q1.1 q1.2.1 q1.2.2.1 q1.2.2.2 e,r⟩,q⟩
 have jt:∀ (h h':Heap) (g:Nat->Option Value),(∃ items:Array Value,h.IsTuple p2 items/\∀ k,g k=items[k]?)->(∀ c o,c≠z->c≠TO->c≠i1->c≠i2->h.get? c=some o->h'.get? c=some o)->∃ items:Array Value,h'.IsTuple p2 items/\∀ k,g k=items[k]? :=
  fun h h' g ⟨items,⟨o,e,r⟩,q⟩ k=>⟨items,⟨o,k _ o q2.1 q2.2.1 q2.2.2.1 q2.2.2.2 e,r⟩,q⟩
 induction k with
 | zero =>
  intro i h tk c acc as hk hi hst ht1 gQ hkeep hS hacc hal xu hab hpr hlo';have hin:i=xs.length:=by omega
  refine codeAny_builtin F.entry_extend_loop ?_;rw [Around.under_plainId F.plain_extend_loop _]
  show wpAny _ A.in1 (pyNext (.ref z) >>= _) _ _ _
  obtain ⟨hTI,hi1,hi2,hzs⟩:=hst;have fin:∀ h' tk',(∀ b o,b≠z->b≠TO->b≠i1->b≠i2->h.get? b=some o->h'.get? b=some o)->R (.ok (.ret res)) { s with heap:=h',toks:=tk' }:=fun h' tk' kp=>by
   refine hR h' tk' acc c as (fun b o hb e=>?_) (kp S _ nz Hl xq xr hS) (by omega) hacc xu (fun a ha=>(hab a ha).1) (fun j a x y h1 h2 h3=>?_)
   ·simp only [List.mem_cons,List.not_mem_nil,or_false,not_or] at hb
    exact kp b o hb.2.1 hb.2.2.1 hb.2.2.2.1 hb.2.2.2.2 (hkeep b o (by simp [hb]) e)
   ·have hb:=big (hab a (List.mem_of_getElem? h1)).1
    exact kp a _ hb.1 hb.2.1 hb.2.2.1 hb.2.2.2.1 (hpr j a x y h1 h2 h3)
  rcases hzs with ⟨e0,hz,a,b,hTO⟩ | ⟨T,f,hT,hz⟩
  ·refine wpAny_bind (Tg (s:={ s with heap:=h,toks:=tk }) (A:=A.in1) (k:=i) hh D (XJ i1 p1) (XJ i2 p2) uJ jt hz hTI hTO hi1 hi2 (nQ h ht1) (sJ h gQ) (.inl (List.getElem?_eq_none (by omega))) fun h' tk' kp=>wpAny_pure (fin h' tk' kp))
  ·obtain ⟨j,hj⟩:=List.mem_iff_getElem?.mp hT
   have hjl:=(List.getElem?_eq_some_iff.mp hj).1;have:=hpr j T _ _ hj (List.getElem?_eq_getElem (show j<xs.length by omega)) (List.getElem?_eq_getElem (show j<ys.length by omega));refine wpAny_bind (Ybv (s:={ s with heap:=h,toks:=tk }) (A:=A.in1) (k:=i) hh D (XJ i1 p1) (XJ i2 p2) uJ hz hTI this hi1 (nQ h ht1) (List.getElem?_eq_none (by omega)) fun h' tk' kp=>wpAny_pure (fin h' tk' fun b o b1 _ b3 b4 e=>kp b o b1 b3 b4 e))
 | succ k ih =>
  intro i h tk c acc as hk hi hst ht1 gQ hkeep hS hacc hal xu hab hpr hlo';have hlt:i<xs.length:=by omega
  have hlt2:i<ys.length:=by omega
  have hx:xs[i]?=some xs[i]:=List.getElem?_eq_getElem hlt;have hy:ys[i]?=some ys[i]:=List.getElem?_eq_getElem hlt2;have hsz:acc.size=i:=by rw [<- Array.length_toList,hacc,List.length_map,hal]
  refine codeAny_builtin F.entry_extend_loop ?_;rw [Around.under_plainId F.plain_extend_loop _]
  show wpAny _ A.in1 (pyNext (.ref z) >>= _) _ _ _
  obtain ⟨hTI,hi1,hi2,hzs⟩:=hst;have step:∀ (Q:Option Value->Shared->Prop) (E:Value->Shared->Prop),(∀ (h':Heap) (tk':Nat) (T:Addr) (f:Bool),T∈as++[h.objs.size]->WQ h' z TI TO (rawInt T) f->h'.IsTupleIter i1 p1 (i+1)->h'.IsTupleIter i2 p2 (i+1)->IsPair h' h.objs.size xs[i] ys[i]->h'.objs.size=h.objs.size+1 ->
    (∀ c o,c≠z->c≠TO->c≠i1->c≠i2->h.get? c=some o->h'.get? c=some o)->Q (some (.ref h.objs.size)) { s with heap:=h',toks:=tk' })->wpAny (model prog w) A.in1 (pyNext (.ref z)) Q E { s with heap:=h,toks:=tk }:=by
   intro Q E hq;rcases hzs with ⟨e0,hz,a,b,hTO⟩ | ⟨T,f,hT,hz⟩
   ·exact Tf (s:={ s with heap:=h,toks:=tk }) (A:=A.in1) (k:=i) D (XJ i1 p1) (XJ i2 p2) uJ jt hz hTI hTO hi1 hi2 (nQ h ht1) (sJ h gQ) hx hy fun h' tk' hz' _ s1 s2 hp hs kp=>hq h' tk' h.objs.size _ (by simp) hz' s1 s2 hp hs kp
   ·obtain ⟨j,hj⟩:=List.mem_iff_getElem?.mp hT
    have hjl:=(List.getElem?_eq_some_iff.mp hj).1;have:=hpr j T _ _ hj (List.getElem?_eq_getElem (show j<xs.length by omega)) (List.getElem?_eq_getElem (show j<ys.length by omega));exact T9 (s:={ s with heap:=h,toks:=tk }) (A:=A.in1) (k:=i) D (XJ i1 p1) (XJ i2 p2) uJ jt hz hTI this hi1 hi2 (nQ h ht1) (sJ h gQ) hx hy fun h' tk' hz' s1 s2 hp hs kp=>hq h' tk' T _ (by simp [hT]) hz' s1 s2 hp hs fun c o c1 _ c3 c4 e=>kp c o c1 c3 c4 e
  refine wpAny_bind (step _ _ fun h' tk' T f hT hz' s1 s2 hp hs hkp=>?_);have hS':=hkp S _ nz Hl xq xr hS;have up:∀ b o,b≠S->h'.get? b=some o->(h'.update S (Obj.mapSeq (·.push (Value.ref h.objs.size)))).get? b=some o:=fun b o hb e=>(Heap.get?_update_other _ _ (Ne.symm hb)).trans e
  have hSl:S<h.objs.size:=Heap.lt_size hS;have np:h.objs.size≠S:=Nat.ne_of_gt hSl
  show wpAny _ A.in1 (updateSeq S (·.push (Value.ref h.objs.size)) >>= _) _ _ _
  refine wpAny_bind ?_;refine wpAny_updateSeq hS' rfl (wpAny_pure ⟨plainId_quiet F.plain_extend_loop _,ih (i+1) _ tk' _ (acc.push (Value.ref h.objs.size)) (as++[h.objs.size]) (by omega) hlt ⟨?_,?_,?_,.inr ⟨T,f,hT,up _ _ nz.symm hz'⟩⟩ ?_ ?_
   (fun b o hb e=>?_) (Heap.get?_update_self _ hS' rfl) (by rw [Array.toList_push,hacc,List.map_append];rfl) (by rw [List.length_append,hal];rfl) ?_ ?_ ?_ ?_⟩) (by rw [hsz];omega) (by show (acc.push (Value.ref h.objs.size)).size<=sizeLine+1;rw [Array.size_push,hsz];omega)
  ·exact up _ _ nTI.symm (hkp TI _ D.a D.e D.f D.g hTI)
  ·obtain ⟨o,e,r⟩:=s1
   exact ⟨o,up _ _ xq.symm e,r⟩
  ·obtain ⟨o,e,r⟩:=s2
   exact ⟨o,up _ _ xr.symm e,r⟩
  ·obtain ⟨o,e,r⟩:=ht1
   exact ⟨o,up _ _ np1.symm (hkp _ _ q1.1 q1.2.1 q1.2.2.1 q1.2.2.2 e),r⟩
  ·obtain ⟨o,e,r⟩:=gQ
   exact ⟨o,up _ _ np2.symm (hkp _ _ q2.1 q2.2.1 q2.2.2.1 q2.2.2.2 e),r⟩
  ·have hb':=hb
   simp only [List.mem_cons,List.not_mem_nil,or_false,not_or] at hb';exact up b o hb'.1 (hkp b o hb'.2.1 hb'.2.2.1 hb'.2.2.2.1 hb'.2.2.2.2 (hkeep b o hb e))
  ·refine List.pairwise_append.mpr ⟨xu,List.pairwise_singleton _ _,fun a ha b hb=>?_⟩
   rw [List.mem_singleton.mp hb];exact (hab a ha).2
  ·have hsz':(h'.update S (Obj.mapSeq (·.push (Value.ref h.objs.size)))).objs.size=h.objs.size+1:=by rw [<- hs];exact Heap.size_update _ _ _
   intro a ha;rw [hsz'];rcases List.mem_append.mp ha with ha | ha
   ·exact ⟨(hab a ha).1,Nat.lt_succ_of_lt (hab a ha).2⟩
   ·rw [List.mem_singleton.mp ha];exact ⟨hlo',Nat.lt_succ_self _⟩
  ·intro j b x y hj ex ey
   rcases Nat.lt_trichotomy j as.length with h1 | h1 | h1
   ·rw [List.getElem?_append_left h1] at hj
    have hb:=big (hab b (List.mem_of_getElem? hj)).1;exact up b _ hb.2.2.2.2 (hkp b _ hb.1 hb.2.1 hb.2.2.1 hb.2.2.2.1 (hpr j b x y hj ex ey))
   ·subst h1
    have hb:h.objs.size=b:=by simpa using hj
    subst hb;rw [hal] at ex ey
    rw [hx] at ex
    rw [hy] at ey
    cases ex
    cases ey
    exact up _ _ np hp
   ·have hnone:(as++[h.objs.size])[j]?=none:=List.getElem?_eq_none (by rw [List.length_append,List.length_singleton];omega)
    rw [hnone] at hj;cases hj
  ·have hsz':(h'.update S (Obj.mapSeq (·.push (Value.ref h.objs.size)))).objs.size=h.objs.size+1:=by rw [<- hs];exact Heap.size_update _ _ _
   rw [hsz'];exact Nat.le_succ_of_le hlo'
end
end L2
namespace L2
open PySem PySem.Calls PySem.Spec PyProof.Rows PyProof.V
theorem YcQ:typeLookup (.type "zip") "__len__"=pure none:=by rw [typeLookup_type,builtinLookup_eq_fast];kernel_rfl
theorem Ybw:typeLookup (.type "zip") "__length_hint__"=pure none:=by rw [typeLookup_type,builtinLookup_eq_fast];kernel_rfl
section
variable {prog:Program} {w:World} {A:Around} {E:Value->Shared->Prop} {s:Shared} {z TI TO i1 i2 p1 p2:Addr} {xs ys:List Value}
theorem Ye2 (hT:s.TypeIs (.ref z) "zip") {Q:Bool->Shared->Prop} (h:Q true s):wpAny (model prog w) A (Builtin.List.listLengthHint (.ref z)) Q E s:=by
 unfold Builtin.List.listLengthHint;refine wpAny_bind (wpAny_specialOf hT YcQ ?_)
 show wpAny _ _ (specialOf (.ref z) "__length_hint__" >>= _) _ _ _
 refine wpAny_bind (wpAny_specialOf hT Ybw ?_);exact wpAny_pure h
structure sO (xs ys:List Value) (lo:Nat) (h:Heap) (as:List Addr):Prop where
 len:as.length=xs.length
 rise:as.Pairwise (·<·)
 above:∀ a∈as,lo<=a
 pairs:∀ (j:Nat) a x y,as[j]?=some a->xs[j]?=some x->ys[j]?=some y->IsPair h a x y
theorem YcR {R:Result->Shared->Prop} {S:Addr} {oa ob:Value} (hh:A.handled=none) (D:cD z TI TO i1 i2) (hlt:z<S/\TI<S/\TO<S/\i1<S/\i2<S/\p1<S/\p2<S) (n1:p1∉[z,TO,i1,i2]) (n2:p2∉[z,TO,i1,i2]) (hl:xs.length=ys.length) (hn:xs.length<=sizeLine) (res:Value) (c₀:Nat)
  (hz:IsZip s.heap z TI TO .none) (hTI:IsPair s.heap TI (.ref i1) (.ref i2)) (hTO:IsPair s.heap TO oa ob) (h1:s.heap.IsTupleIter i1 p1 0) (h2:s.heap.IsTupleIter i2 p2 0) (t1:s.heap.IsTuple p1 xs.toArray) (t2:s.heap.IsTuple p2 ys.toArray) (hS:s.heap.get? S=some { cls := .type "list",data := .seq #[] c₀ })
  (hR:∀ (h':Heap) (tk:Nat) (acc:Array Value) (c:Nat) (as:List Addr),(∀ b o,b∉[S,z,TO,i1,i2]->s.heap.get? b=some o->h'.get? b=some o)->h'.get? S=some { cls := .type "list",dict:=none,data := .seq acc c,slots:=#[] }->acc.toList=as.map Value.ref->sO xs ys (S+1) h' as->R (.ok (.ret res)) { s with heap:=h',toks:=tk }) :
  wpAny (model prog w) A.in1 (Builtin.List.listExtendWith (.ref S) (.ref z) res)
   (fun fin s'=>match fin with | .done f=>R (.ok f) s' | .again c'=>c'.quiet=true/\codeAny (model prog w) A c' R s') (fun e s'=>R (.error e) s') s:=by
 obtain ⟨l1,l2,l3,l4,l5,l6,l7⟩:=hlt;have nS:S∉[z,TI,TO,i1,i2,p1,p2]:=by
  intro hm;simp only [List.mem_cons,List.not_mem_nil,or_false] at hm;rcases hm with e | e | e | e | e | e | e<;>(subst e;first | exact absurd l1 (Nat.lt_irrefl _) | exact absurd l2 (Nat.lt_irrefl _) | exact absurd l3 (Nat.lt_irrefl _) | exact absurd l4 (Nat.lt_irrefl _) | exact absurd l5 (Nat.lt_irrefl _) | exact absurd l6 (Nat.lt_irrefl _) | exact absurd l7 (Nat.lt_irrefl _))
 have key:∀ (h:Heap) (c₁ tk:Nat),(∀ b o,b≠S->s.heap.get? b=some o->h.get? b=some o)->h.get? S=some { cls := .type "list",data := .seq #[] c₁ }->codeAny (model prog w) A (.builtin "list.extend.loop" ⟨[.ref S,.ref z,res],[]⟩) R { s with heap:=h,toks:=tk }:=by
  intro h c₁ tk hk hS₁;have m:∀ {b:Addr},b<S->∀ o,s.heap.get? b=some o->h.get? b=some o:=fun {b} hb o e=>hk b o (Nat.ne_of_lt hb) e
  refine Ye1 (s:=s) (h₁:=s.heap) hh D (S+1) ⟨Nat.lt_succ_of_lt l1,Nat.lt_succ_of_lt l2,Nat.lt_succ_of_lt l3,Nat.lt_succ_of_lt l4,Nat.lt_succ_of_lt l5,Nat.lt_succ_self _,Nat.lt_succ_of_lt l6,Nat.lt_succ_of_lt l7⟩ nS n1 n2 hl hn res (fun h' tk' acc c as kp eS ln ac pw ab pr=>hR h' tk' acc c as kp eS ac ⟨ln,pw,ab,pr⟩)
   xs.length 0 h tk c₁ #[] [] (Nat.sub_zero _) (Nat.zero_le _) ⟨m l2 _ hTI,?_,?_,.inl ⟨rfl,m l1 _ hz,_,_,m l3 _ hTO⟩⟩ ?_ ?_ (fun b o hb e=>hk b o (fun q=>hb (by simp [q])) e) hS₁ rfl rfl List.Pairwise.nil (fun _ ha=>nomatch ha) (fun j a x y hj=>by simp at hj) (Heap.lt_size hS₁)
  ·obtain ⟨o,e,r⟩:=h1;exact ⟨o,m l4 _ e,r⟩
  ·obtain ⟨o,e,r⟩:=h2;exact ⟨o,m l5 _ e,r⟩
  ·obtain ⟨o,e,r⟩:=t1;exact ⟨o,m l6 _ e,r⟩
  ·obtain ⟨o,e,r⟩:=t2;exact ⟨o,m l7 _ e,r⟩
 have hT:s.TypeIs (.ref z) "zip":=⟨_,hz,rfl⟩;unfold Builtin.List.listExtendWith;refine wpAny_bind (wpAny_typeOf (T:="zip") hT ?_);have h1:Builtin.List.listSameRef (.ref S) (.ref z)=false:=by simp [Builtin.List.listSameRef,Nat.ne_of_gt l1]
 have h2:(Value.type "zip"==Value.type "list")=false:=by decide
 have h3:(Value.type "zip"==Value.type "tuple")=false:=by decide
 simp only [h1,h2,h3,Bool.or_false,Bool.false_eq_true,if_false];refine wpAny_bind (wpAny_pyIter_zip hz ?_);refine wpAny_bind (wpAny_holding (Ye2 hT ?_));refine wpAny_ite_split (fun _=>?_) (fun _=>wpAny_pure ⟨plainId_quiet F.plain_extend_loop _,key _ c₀ _ (fun b o _ e=>e) hS⟩);refine wpAny_bind (wpAny_rule ?_);refine wpAny_bind ?_
 show wpAny _ _ (updateSeq S (·.push .none) >>= fun _=>updateSeq S (·.pop)) _ _ _
 refine wpAny_bind (wpAny_updateSeq hS rfl ?_);have hS₂:=Heap.get?_update_self (Obj.mapSeq (·.push Value.none)) hS rfl;refine wpAny_updateSeq (hz:=by seq_fits) hS₂ rfl ?_;have hS₃:=Heap.get?_update_self (Obj.mapSeq (·.pop)) hS₂ rfl;refine wpAny_pure ⟨plainId_quiet F.plain_extend_loop _,key _ _ _ (fun b o hb e=>?_) hS₃⟩;exact (Heap.get?_update_other _ _ (Ne.symm hb)).trans ((Heap.get?_update_other _ _ (Ne.symm hb)).trans e)
theorem Ye3 {R:Result->Shared->Prop} {S:Addr} {oa ob:Value} (hh:A.handled=none) (D:cD z TI TO i1 i2) (hlt:z<S/\TI<S/\TO<S/\i1<S/\i2<S/\p1<S/\p2<S) (n1:p1∉[z,TO,i1,i2]) (n2:p2∉[z,TO,i1,i2]) (hl:xs.length=ys.length) (hn:xs.length<=sizeLine)
  (hz:IsZip s.heap z TI TO .none) (hTI:IsPair s.heap TI (.ref i1) (.ref i2)) (hTO:IsPair s.heap TO oa ob) (h1:s.heap.IsTupleIter i1 p1 0) (h2:s.heap.IsTupleIter i2 p2 0) (t1:s.heap.IsTuple p1 xs.toArray) (t2:s.heap.IsTuple p2 ys.toArray) (hS:s.heap.get? S=some { cls := .type "list",data := .seq #[] })
  (hR:∀ (h':Heap) (tk:Nat) (acc:Array Value) (c:Nat) (as:List Addr),(∀ b o,b∉[S,z,TO,i1,i2]->s.heap.get? b=some o->h'.get? b=some o)->h'.get? S=some { cls := .type "list",dict:=none,data := .seq acc c,slots:=#[] }->acc.toList=as.map Value.ref->sO xs ys (S+1) h' as->R (.ok (.ret .none)) { s with heap:=h',toks:=tk }) :
  wpAny (model prog w) A.in1 (Builtin.«list.__init__» ⟨[.ref S,.ref z],[]⟩)
   (fun fin s'=>match fin with | .done f=>R (.ok f) s' | .again c'=>c'.quiet=true/\codeAny (model prog w) A c' R s') (fun e s'=>R (.error e) s') s:=by
 show wpAny _ _ (do let old <- Builtin.List.listItems (.ref S);Builtin.List.listUpdate (.ref S) (fun _=>#[]);letGo old.toList.reverse;Builtin.List.listExtendWith (.ref S) (.ref z) .none) _ _ s
 refine wpAny_bind ?_;unfold Builtin.List.listItems;refine wpAny_bind (wpAny_seqItems hS rfl (wpAny_pure ?_))
 show wpAny _ _ (updateSeq S (fun _=>#[]) >>= fun _=>letGo (#[]:Array Value).toList.reverse >>= fun _=>Builtin.List.listExtendWith (.ref S) (.ref z) .none) _ _ s
 refine wpAny_bind (wpAny_updateSeq hS rfl ?_);have hS₂:=Heap.get?_update_self (Obj.mapSeq (fun _=>(#[]:Array Value))) hS rfl;have oth:∀ b o,b≠S->s.heap.get? b=some o->(s.heap.update S (Obj.mapSeq (fun _=>(#[]:Array Value)))).get? b=some o :=
  fun b o hb e=>(Heap.get?_update_other _ _ (Ne.symm hb)).trans e
 have m:∀ {b:Addr},b<S->∀ o,s.heap.get? b=some o->(s.heap.update S (Obj.mapSeq (fun _=>(#[]:Array Value)))).get? b=some o:=fun {b} hb o e=>oth b o (Nat.ne_of_lt hb) e
 refine wpAny_bind (wpAny_letGo ?_);refine YcR (oa:=oa) (ob:=ob) (xs:=xs) (ys:=ys) hh D hlt n1 n2 hl hn .none _ (m hlt.1 _ hz) (m hlt.2.1 _ hTI) (m hlt.2.2.1 _ hTO) ?_ ?_ ?_ ?_ hS₂ (fun h' tk acc c as hk hS' hacc hG=>?_)
 ·obtain ⟨o,e,r⟩:=h1;exact ⟨o,m hlt.2.2.2.1 _ e,r⟩
 ·obtain ⟨o,e,r⟩:=h2;exact ⟨o,m hlt.2.2.2.2.1 _ e,r⟩
 ·obtain ⟨o,e,r⟩:=t1;exact ⟨o,m hlt.2.2.2.2.2.1 _ e,r⟩
 ·obtain ⟨o,e,r⟩:=t2;exact ⟨o,m hlt.2.2.2.2.2.2 _ e,r⟩
 ·exact hR h' tk acc c as (fun b o hb e=>hk b o hb (oth b o (fun q=>hb (by simp [q])) e)) hS' hacc hG
theorem Yar {Q:Value->Shared->Prop} {oa ob:Value} (hh:A.handled=none) (D:cD z TI TO i1 i2) (n1:p1∉[z,TO,i1,i2]) (n2:p2∉[z,TO,i1,i2]) (hl:xs.length=ys.length) (hn:xs.length<=sizeLine)
  (hz:IsZip s.heap z TI TO .none) (hTI:IsPair s.heap TI (.ref i1) (.ref i2)) (hTO:IsPair s.heap TO oa ob) (h1:s.heap.IsTupleIter i1 p1 0) (h2:s.heap.IsTupleIter i2 p2 0) (t1:s.heap.IsTuple p1 xs.toArray) (t2:s.heap.IsTuple p2 ys.toArray)
  (hQ:∀ (h':Heap) (tk:Nat) (acc:Array Value) (c:Nat) (as:List Addr),(∀ b o,b∉[z,TO,i1,i2]->s.heap.get? b=some o->h'.get? b=some o)->h'.get? s.heap.objs.size=some { cls := .type "list",dict:=none,data := .seq acc c,slots:=#[] }->acc.toList=as.map Value.ref->sO xs ys (s.heap.objs.size+1) h' as->Q (.ref s.heap.objs.size) { s with heap:=h',toks:=tk }) :
  wpAny (model prog w) A (call (.type "list") [.ref z]) Q E s:=by
 refine callType_codes (Q₁:=fun obj s₁=>obj = .ref s.heap.objs.size/\s₁={ s with heap:=s.heap.push { cls := .type "list",data := .seq #[] } }) F.called_list (F.typeCall_list_1 _) F.entry_list_init
  (code_list_new _ ⟨rfl,rfl⟩) fun obj s₁ h₁=>?_
 obtain ⟨rfl,rfl⟩:=h₁;have hS:(s.heap.push { cls := .type "list",data := .seq #[] }).get? s.heap.objs.size=some { cls := .type "list",data := .seq #[] }:=Heap.get?_push_size _ rfl;obtain ⟨o1,e1,r1⟩:=h1;obtain ⟨o2,e2,r2⟩:=h2;obtain ⟨o3,e3,r3⟩:=t1;obtain ⟨o4,e4,r4⟩:=t2;refine ⟨⟨_,hS,rfl⟩,F.args_list_init_2 _ _,Ye3 (oa:=oa) (ob:=ob) (xs:=xs) (ys:=ys) (A:=A.in1) hh D ⟨Heap.lt_size hz,Heap.lt_size hTI,Heap.lt_size hTO,Heap.lt_size e1,Heap.lt_size e2,Heap.lt_size e3,Heap.lt_size e4⟩ n1 n2 hl hn
  (Heap.get?_push_of_some _ hz) (Heap.get?_push_of_some _ hTI) (Heap.get?_push_of_some _ hTO) ⟨_,Heap.get?_push_of_some _ e1,r1⟩ ⟨_,Heap.get?_push_of_some _ e2,r2⟩ ⟨_,Heap.get?_push_of_some _ e3,r3⟩ ⟨_,Heap.get?_push_of_some _ e4,r4⟩ hS (fun h' tk acc c as hk hS' hacc hG=>?_)⟩
 exact ⟨rfl,hQ h' tk acc c as (fun b o hb e=>hk b o (fun q=>hb (by
  rcases List.mem_cons.mp q with q | q
  ·exact absurd (Heap.lt_size e) (by rw [q];exact Nat.lt_irrefl _)
  ·exact q)) (Heap.get?_push_of_some _ e)) hS' hacc hG⟩
end
end L2
namespace L2
open PySem PySem.Spec PyProof.Rows
section
variable {X:Cx} {pins:List (Addr×Obj)} {σ:St} {H H':Hp} {s:Shared} {h':Heap}
theorem Inv.vM {t':Nat} {ch:List Addr} (I:Inv X pins σ H s) (k:∀ b o,b∉ch->s.heap.get? b=some o->h'.get? b=some o) (hf:∀ b∈ch,Wm X pins H b) (up:∀ b u,H b=some u->H' b=some u)
  (nw:∀ b u,H' b=some u->H b=none->s.heap.objs.size<=b/\Y1 X.prog X.w H' h' b u):Inv X pins σ H' { s with heap:=h',toks:=t' }:=by
 have fB:∀ b u,H b=some u->b∉ch:=fun b u e z=>by rw [(hf b z).1] at e;cases e
 refine I.step (g':=s.gens) (d':=s.drawn) (ch:=ch) (fun b hb=>?_) (fun b o _ _ hc e _=>k b o hc e) (fun b o _ _ hc e _=>⟨o.slots,k b o hc e⟩) (fun b o _ e n=>?_)
  (fun b o hc e=>⟨o,k b o hc e⟩) (fun b xs e=>up b _ e) (fun b o u e=>up b _ e) (fun b ps e=>⟨#[],by rw [up b _ e];simp⟩) (fun m hm=>?_) (fun b u e=>?_) I.bare
 ·obtain ⟨f0,f1,f2,f3,f4,f5⟩:=hf b hb
  exact ⟨f3,f1,f4,f5⟩
 ·cases q:H' b with
  | none=>rfl
  | some u=>exact absurd (Heap.lt_size e) (Nat.not_lt.mpr (nw b u q n).1)
 ·obtain ⟨o,es,ep,ho,r⟩:=hm
  exact ⟨o,es,ep,k _ o (fun z=>(hf _ z).2.1 rfl) ho,r⟩
 ·cases q:H b with
  | none=>exact (nw b u e q).2
  | some v =>
   have q':=up b v q;rw [e] at q'
   cases q'
   refine (I.hok b u q).stay (fun c v hc q3=>k c v ?_ q3) (fun c q=>up c _ q) fun c xs q=>up c _ q
   rcases hc with z | z
   ·rw [z];exact fB b u q
   ·exact fB c _ z
end
theorem Uk {β:Type}:∀ (as:List Addr) (ps:List β) (j:Nat) (a:Addr) (p:β),as.Pairwise (·<·)->as[j]?=some a->ps[j]?=some p->(as.zip ps).lookup a=some p
 | [],_,j,a,p,_,h,_=>by simp at h
 | _::_,[],j,a,p,_,_,h=>by simp at h
 | b::as,q::ps,0,a,p,_,h1,h2=>by
  simp only [List.getElem?_cons_zero,Option.some.injEq] at h1 h2;subst h1;subst h2;simp [List.lookup]
 | b::as,q::ps,j+1,a,p,hp,h1,h2=>by
  simp only [List.getElem?_cons_succ] at h1 h2;obtain ⟨g1,g2⟩:=List.pairwise_cons.mp hp;have hlt:b<a:=g1 a (List.mem_of_getElem? h1);have hne:(a==b)=false:=by simpa using Nat.ne_of_gt hlt
  simp only [List.zip_cons_cons,List.lookup,hne];exact Uk as ps j a p g2 h1 h2
theorem WZ {β:Type}:∀ (as:List Addr) (ps:List β) (a:Addr) (p:β),(as.zip ps).lookup a=some p->∃ j:Nat,as[j]?=some a/\ps[j]?=some p
 | [],_,a,p,h=>by simp at h
 | _::_,[],a,p,h=>by simp at h
 | b::as,q::ps,a,p,h=>by
  simp only [List.zip_cons_cons,List.lookup] at h;by_cases e:a=b
  ·subst e
   simp only [beq_self_eq_true,Option.some.injEq] at h;exact ⟨0,by simp,by simp [h]⟩
  ·have hne:(a==b)=false:=by simpa using e
   simp only [hne] at h;obtain ⟨j,h1,h2⟩:=WZ as ps a p h;exact ⟨j+1,by simpa using h1,by simpa using h2⟩
section
variable {X:Cx}
def xG (K:W.Frag) (ta:TA):TE:=fun σ H Q=>ta σ H fun vs H1=>∃ a b xs ys,vs=[.ref a,.ref b]/\au K H1 a xs/\au K H1 b ys/\xs.length=ys.length /\
 ∀ (l:Addr) (as:List Addr) (H2:Hp),H1 l=none->Yj H1 H2->H2 l=some (.lst (as.map V.ref))->as.length=xs.length ->
  (∀ (j:Nat) a x y,as[j]?=some a->xs[j]?=some x->ys[j]?=some y->H1 a=none/\H2 a=some (.tup [x,y]))->Q (.ref l) H2
theorem Ho:∀ as:List Addr,Yx (as.map V.ref) (as.map Value.ref)
 | [] => .nil
 | _::as => .cons rfl (Ho as)
theorem Hq:∀ {xs:List V} {us:List Value},Yx xs us->∀ {j:Nat} {x:V},xs[j]?=some x->∃ u,us[j]?=some u/\YF x u:=by
 intro xs us h
 induction h with
 | nil=>intro j x e;simp at e
 | cons r _ ih =>
  intro j x e
  cases j with
  | zero=>simp only [List.getElem?_cons_zero,Option.some.injEq] at e;subst e;exact ⟨_,rfl,r⟩
  | succ j=>simpa using ih (by simpa using e)
theorem Ybx {a b:Expr} {ta:TA} {p q pos pos':Pos} (hgl:Gl X "list") (hml:X.mg "list"=none) (hg:Gl X "zip") (hm:X.mg "zip"=none) (ha:PA X [a,b] ta) (hc:X.calm=true)
  (hs:starEach [a,b] X.env=[(false,eval a X.env),(false,eval b X.env)]) (hs2:starEach [b] X.env=[(false,eval b X.env)]) :
  PE X (.Call (.Name "list" p) [.Call (.Name "zip" q) [a,b] [] pos'] [] pos) (xG X.K ta):=by
 intro pins s σ H Q I h;refine wpAny_Call_Name_kw (Wl I hgl hml boot_list ?_);refine PyProof.Rows.callWith_type1 ?_
 show wpAny _ _ (spliced ((false,eval (.Call (.Name "zip" q) [a,b] [] pos') X.env)::[])) _ _ s
 refine Calls.spliced_cons ?_;refine wpAny_Call_Name_kw (Wl I hg hm boot_zip (PyProof.Rows.callWith_type1 (aG (ha pos' pins s σ H _ I h) fun us s1 ⟨vs,H1,I1,r1,q1⟩=>?_) (by rw [hs,hs2]) (by rw [hs2];rfl)));obtain ⟨x,y,xs,ys,e,hx,hy,hl,q⟩:=q1;subst e;obtain ⟨u,v,rfl,ru,rv⟩:=r1.two
 cases ru
 cases rv
 obtain ⟨i1,w1,ht1,z1⟩:=I1.tuple hx;obtain ⟨i2,w2,gQ,z2⟩:=I1.tuple hy;have l1:x<s1.heap.objs.size:=by obtain ⟨_,e,_⟩:=ht1;exact Heap.lt_size e
 have l2:y<s1.heap.objs.size:=by obtain ⟨_,e,_⟩:=gQ;exact Heap.lt_size e
 refine Tj (Ui ht1) (Ui gQ) rfl rfl fun h1 hz hTI hTO g1 g2 hsz keep=>?_
 refine Calls.spliced_nil ?_;have I2:Inv X pins σ H1 { s1 with heap:=h1 }:=I1.kept (t':=s1.toks) keep;have n1:x∉[s1.heap.objs.size+4,s1.heap.objs.size+3,s1.heap.objs.size,s1.heap.objs.size+1]:=by
  intro hm;simp only [List.mem_cons,List.not_mem_nil,or_false] at hm;rcases hm with e | e | e | e<;>(have e':@Eq Nat _ _:=e;have la':@LT.lt Nat _ x s1.heap.objs.size:=l1;omega)
 have n2:y∉[s1.heap.objs.size+4,s1.heap.objs.size+3,s1.heap.objs.size,s1.heap.objs.size+1]:=by
  intro hm;simp only [List.mem_cons,List.not_mem_nil,or_false] at hm;rcases hm with e | e | e | e<;>(have e':@Eq Nat _ _:=e;have la':@LT.lt Nat _ y s1.heap.objs.size:=l2;omega)
 have t1:h1.IsTuple x i1.toArray:=by obtain ⟨o,e,r⟩:=ht1;exact ⟨o,keep _ _ e,r⟩
 have t2:h1.IsTuple y i2.toArray:=by obtain ⟨o,e,r⟩:=gQ;exact ⟨o,keep _ _ e,r⟩
 have e1:=w1.length;have e2:=w2.length;refine Yar (s:={ s1 with heap:=h1 }) (xs:=i1) (ys:=i2) (I2.ok.hd hc) (Tn s1.heap.objs.size) n1 n2 (by omega) (by omega) hz hTI hTO ⟨_,g1,rfl,rfl⟩ ⟨_,g2,rfl,rfl⟩ t1 t2 fun h' tk acc c as kp hS hacc hG=>?_
 let H2:Hp:=fun b=>if b=h1.objs.size then some (.lst (as.map V.ref)) else match (as.zip (xs.zip ys)).lookup b with | some p=>some (.tup [p.1,p.2]) | none=>H1 b
 have fr:∀ b,h1.objs.size<=b->H1 b=none:=fun b hb=>I2.hok.fresh hb
 have old:∀ b u,H1 b=some u->b<h1.objs.size:=fun b u e=>Nat.lt_of_not_le fun hb=>by rw [fr b hb] at e;cases e
 have lk:∀ b p,(as.zip (xs.zip ys)).lookup b=some p->h1.objs.size+1<=b:=fun b p e=>by
  obtain ⟨j,h1,_⟩:=WZ _ _ _ _ e;exact hG.above b (List.mem_of_getElem? h1)
 have up:∀ b u,H1 b=some u->H2 b=some u:=fun b u e=>by
  have hb:=old b u e
  show (if b=h1.objs.size then _ else _)=_
  rw [if_neg (Nat.ne_of_lt hb)]
  cases e':(as.zip (xs.zip ys)).lookup b with
  | none=>exact e
  | some p=>exact absurd (Nat.lt_of_succ_le (lk b p e')) (Nat.not_lt.mpr (Nat.le_of_lt hb))
 have atj:∀ (j:Nat) a x y,as[j]?=some a->xs[j]?=some x->ys[j]?=some y->H2 a=some (.tup [x,y]):=fun j a x y h1' h2 h3=>by
  have ha:h1.objs.size+1<=a:=hG.above a (List.mem_of_getElem? h1')
  show (if a=h1.objs.size then _ else _)=_
  have hzz:(xs.zip ys)[j]?=some (x,y):=List.getElem?_zip_eq_some.mpr ⟨h2,h3⟩;rw [if_neg (Nat.ne_of_gt (Nat.lt_of_succ_le ha)),Uk as (xs.zip ys) j a (x,y) hG.rise h1' hzz]
 have hS2:H2 h1.objs.size=some (.lst (as.map V.ref)):=if_pos rfl;have hlen:as.length=xs.length:=by rw [hG.len];omega
 have I3:Inv X pins σ H2 { s1 with heap:=h',toks:=tk }:=by
  refine I2.vM (s:={ s1 with heap:=h1 }) (ch:=[s1.heap.objs.size+4,s1.heap.objs.size+3,s1.heap.objs.size,s1.heap.objs.size+1]) kp (fun b hb=>?_) up (fun b u e hn=>?_)
  ·have hle:s1.heap.objs.size<=b:=by
    simp only [List.mem_cons,List.not_mem_nil,or_false] at hb;rcases hb with e | e | e | e<;>(have e':@Eq Nat _ _:=e;show @LE.le Nat _ s1.heap.objs.size b;omega)
   exact I1.fC hle (I1.hok.fresh hle)
  ·by_cases hb:b=h1.objs.size
   ·subst hb
    rw [hS2] at e
    cases e
    refine ⟨Nat.le_refl _,(by rw [List.length_map];omega),as.map Value.ref,c,Ho as,?_⟩;rw [<- hacc];exact hS
   ·have e0:(match (as.zip (xs.zip ys)).lookup b with | some p=>some (HO.tup [p.1,p.2]) | none=>H1 b)=some u:=by
     have:H2 b=_:=if_neg hb;rw [<- this];exact e
    cases e':(as.zip (xs.zip ys)).lookup b with
    | none=>rw [e'] at e0;rw [hn] at e0;cases e0
    | some p =>
     rw [e'] at e0
     cases e0
     refine ⟨Nat.le_of_succ_le (lk b p e'),(show (2:Nat)<=sizeLine by decide),?_⟩;obtain ⟨j,j1,j2⟩:=WZ _ _ _ _ e';obtain ⟨k1,k2⟩:=List.getElem?_zip_eq_some.mp j2;obtain ⟨u1,f1,r1⟩:=Hq w1 k1;obtain ⟨u2,f2,r2⟩:=Hq w2 k2;exact ⟨[u1,u2],.cons r1 (.cons r2 .nil),⟨_,hG.pairs j b u1 u2 j1 f1 f2,rfl,_,rfl⟩⟩
 exact ⟨.ref h1.objs.size,H2,I3,rfl,q _ as H2 (fr _ (Nat.le_refl _)) up hS2 hlen fun j a x y k1 k2 k3=>⟨fr a (Nat.le_of_succ_le (hG.above a (List.mem_of_getElem? k1))),atj j a x y k1 k2 k3⟩⟩
end
section
variable {src:List (Option Nat)} {te:TE} {σ:St} {H:Hp} {Q:VK}
theorem Ygl {J:It} {P:Hp->Prop} {xs:List V} (hJ:Wr J P xs) {H1:Hp} {D:Addr} (ts:List (List V)) (hP:∀ H',Yj H1 H'->P H') (hD:H1 D=none) (hl:ts.length=xs.length) (hlen:xs.length<=100000)
  (step:∀ (i:Nat) x t H',xs[i]?=some x->ts[i]?=some t->Yj H1 H'->∀ R:VK,(∀ a aK,Yj H' aK->aK a=some (.tup t)->R (.ref a) aK)->te (some x::YI src σ) H' R)
  (fin:∀ (as:List Addr) H',Yj H1 H'->H' D=some (.lst (as.map V.ref))->as.length=xs.length->(∀ (j:Nat) a t,as[j]?=some a->ts[j]?=some t->H' a=some (.tup t))->Q (.ref D) H'):LC (none::src) J (YG 0) Wa te σ H1 Q D:=by
 have h6:100000<sizeLine:=by decide
 refine Vy hJ (fun i zs σ' H'=>∃ as:List Addr,zs=as.map V.ref/\as.length=i/\(∃ o,σ'=o::YI src σ)/\Yj H1 H'/\H' D=some (.lst zs)/\∀ (j:Nat) a t,as[j]?=some a->ts[j]?=some t->H' a=some (.tup t))
  ⟨[],rfl,rfl,⟨none,rfl⟩,.aj hD _,Yd,fun j a t h=>by simp at h⟩ (fun i zs σ' H' ⟨as,_,_,_,p1,p2,_⟩=>⟨hP _ p1,p2⟩) (X3 0) ?_ ?_
 ·rintro i zs σ' H' x hx ⟨as,rfl,hi',⟨o,rfl⟩,sm,hd,hts⟩
  have hi:=(List.getElem?_eq_some_iff.mp hx).1;have ht:ts[i]?=some (ts[i]'(by omega)):=List.getElem?_eq_getElem _
  show te (some x::YI src σ) H' _
  refine step i x _ H' hx ht sm _ fun a aK s2 ha=>⟨s2 _ _ hd,by rw [List.length_map];omega,as++[a],by simp,by simp [hi'],⟨_,rfl⟩,.cO hD (sm.trans s2) _,Yd,fun j b t hj hjt=>?_⟩
  have key:aK b=some (.tup t):=by
   rcases Nat.lt_trichotomy j as.length with h1 | h1 | h1
   ·rw [List.getElem?_append_left h1] at hj
    exact s2 _ _ (hts j b t hj hjt)
   ·have hb:a=b:=by subst h1;simpa using hj
    subst hb;rw [h1,hi'] at hjt
    rw [ht] at hjt
    cases hjt
    exact ha
   ·rw [List.getElem?_eq_none (by rw [List.length_append,List.length_singleton];omega)] at hj;cases hj
  rw [Yg (Xh key (s2 _ _ hd) (by intro z;cases z))];exact key
 ·rintro zs σ' H' ⟨as,rfl,hn,_,sm,hd,hts⟩
  exact fin as H' sm hd hn hts
end
section
variable {X:Cx}
theorem Ye4 {i:Nat} {x:Str} {pos':Pos} {pins:List (Addr×Obj)} {σ:St} {D0:Ends} (hN:X.N.Nodup) (hix:X.N[i]?=some x) (hlx:Loc X.env.scope x) (hf:X.fn x=true\/X.env.scope.names.lookup x=some .local) (D C:Addr) (s6:Shared) (H5:Hp)
  (fi:∀ h',Heap.SameBut C s6.heap h'->Inv X pins σ H5 { s6 with heap:=h' }) (hn:∃ m,s6.heap.Ns C m) (hCn:H5 C=none) (hC:∀ {H':Hp},H' C=none->Wm X pins H' C) (qn:D0.nx (σ.set i (some (.ref D))) H5) :
  compPost (model X.prog X.w) X.A X.xe (some fun v=>assignAll v ((assignEach [.Name x pos'] X.env).map (·.2))) (fun _ s'=>wpAny (model X.prog X.w) X.A (pure PUnit.unit) (fun _ s'=>wpAny (model X.prog X.w) X.A (pure Flow.next) (SP X pins D0) X.xe s') X.xe s') (.ref D) C (.ok .next) s6:=by
 obtain ⟨m,oC,es,ep,hoC,rC⟩:=hn;have IO:Inv X pins σ H5 s6:=fi s6.heap (Heap.SameBut.refl _ _);have IP:=IO.pinned (fp:=[C]) (fun b hb=>by rw [List.mem_singleton.mp hb];exact hC hCn) (fun b hb=>by rw [List.mem_singleton.mp hb];exact ⟨oC,hoC,fun v z=>by (rw [rC.1] at z;cases z)⟩)
 show wpAny _ _ (assign (.Name x pos') X.env (.ref D)) _ _ _
 refine aG (YK hN hix hlx hf _ s6 σ H5 (.ref D) (.ref D) _ IP rfl qn) fun _ s7 ⟨dX,H7,I7,q7⟩=>?_
 obtain ⟨g1,g2,_⟩:=I7.pin (C,oC) (List.mem_append_right _ (List.mem_append_right _ (Wn (List.mem_singleton.mpr rfl) hoC)));refine ⟨m,⟨oC,es,ep,g1,rC⟩,fun h' sb=>wpAny_pure (wpAny_pure ⟨dX,H7,?_,q7⟩)⟩;exact I7.dw.vL (t':=s7.toks) (ch:=[C]) (fun b o hb e=>sb.extBut b o (fun z=>hb (by rw [z];exact List.mem_singleton.mpr rfl)) e) (fun b hb=>by rw [List.mem_singleton.mp hb];exact hC g2)
theorem QS {i:Nat} {x:Str} {pos' apos:Pos} {elt tg iter:Expr} {ifs:List Expr} {scope:Scope} {pos:Pos} {src:List (Option Nat)} {N':List Str} {wi:TI} {g:TG} {tt:TT} {te:TE} (hN:X.N.Nodup) (hix:X.N[i]?=some x) (hlx:Loc X.env.scope x) (hcap:dZ X scope src N') (hc:X.calm=true) (hi:PI X tg iter wi)
  (hg:∀ cl C s₀ H₀ fp pn,PG (bZ X scope N' cl C s₀ H₀ fp pn) tg g) (ht:∀ cl C s₀ H₀ fp pn,pI (bZ X scope N' cl C s₀ H₀ fp pn) ifs tt) (he:∀ cl C s₀ H₀ fp pn,PE (bZ X scope N' cl C s₀ H₀ fp pn) elt te)
  (hfree:∀ x,(x,NameKind.free)∈scope.names->X.env.scope.names.lookup x=some NameKind.cell\/X.env.scope.names.lookup x=some NameKind.free)
  (hk:scope.kind = .function) (hcell:∀ y∈scope.names,y.2 ≠ .cell) (hnames:∀ y∈scope.names,y.2 = .local->scope.names.lookup y.1=some .local)
  (hs:∀ x,foldedSetIterable iter X.env x=pure x) (hsw:swapsWithSole [.Name x pos'] (.ListComp elt [⟨tg,iter,ifs,0⟩] scope pos) apos.line X.env=pure true) (hf:X.fn x=true\/X.env.scope.names.lookup x=some .local) :
  PS X (.Assign [.Name x pos'] (.ListComp elt [⟨tg,iter,ifs,0⟩] scope pos) apos) (tR (d7 src wi g tt te) (YG i)):=by
 intro pins s σ H D0 I h;obtain ⟨cl,hcl,a,b⟩:=Qr X.env scope fun x hx=>I.ok.has x (hfree x hx)
 rw [exec_Assign_arm];refine wpAny_bind (wpAny_standAt ?_);rw [hsw];refine wpAny_bind (wpAny_pure ?_);rw [if_pos rfl];refine wpAny_bind ?_;rw [arm_evalThenUse_ListComp];refine wpAny_bind ?_;refine wpAny_comprehension_free (use:=some _) rfl hs hcl hk hnames (aG (hi pins s σ H _ I h) fun v s1 h1=>aG h1 fun itv s2 h2=>?_);exact GP (Po:=fun v C=>compPost (model X.prog X.w) X.A X.xe (some fun v=>assignAll v ((assignEach [.Name x pos'] X.env).map (·.2))) (fun _ s'=>wpAny (model X.prog X.w) X.A (pure PUnit.unit) (fun _ s'=>wpAny (model X.prog X.w) X.A (pure Flow.next) (SP X pins D0) X.xe s') X.xe s') v C) (Z:=fun _ _ _ _ _ _ _=>False) hcap hc (hg cl) (ht cl) (he cl) hk hcell a b h2 (Ye4 hN hix hlx hf) fun _ _ _ _ _ _ _ _ z=>z.elim
end
def Yg6 (h:Heap) (e:Addr) (dc:Option Addr):Prop:=∃ o,h.get? e=some o/\o.dict=dc
structure Fly (P:Program) (w:World) (l:List Env) (H:Hp) (h:Heap) (e:Addr) (cls:Value) (H':Hp) (h' B:Heap):Prop where
 fl:∃ a0,Heap.FlyingW B l e cls a0 h'
 hok:bL P w H' B
 keep:∀ b o,h.get? b=some o->H b=none->b∉frs l->B.get? b=some o
 slot:∀ b o,h.get? b=some o->H b=none->b∈frs l->∃ sl,h'.get? b=some { o with slots:=sl }
 al:∀ b o,h.get? b=some o->b∉frs l->∃ o',B.get? b=some o'
 free:∀ b o,h.get? b=some o->H b=none->H' b=none
 tups:∀ b xs,H b=some (.tup xs)->H' b=some (.tup xs)
 dj:∀ b o u,H b=some (.cQ o u)->H' b=some (.cQ o u)
 dW:∀ b ps,H b=some (.gK ps)->∃ more,H' b=some (.gK (ps++more))
def CXF (P:Program) (w:World):dz:=fun l H s E e s'=>∃ (a:Addr) (cls:Value) (H':Hp) (B:Heap) (dc:Option Addr),e = .ref a/\s'.os=s.os/\AllBare s'.gens/\Fly P w l H s.heap a cls H' s'.heap B/\Yg6 s'.heap a dc/\E cls dc H'
section
variable {g:Gx} {X:Cx} {k j:Nat} {x:Str} {ps:List Str} {sp:Sp} {E:XK} {e:Expr} {es:List Expr} {t:TA} {p pos cpos np:Pos}
def Hr (C:Addr) (E:XK) (t:TA):TS:=fun _ σ H=>t σ H fun vs H1=>vs.length<=sizeLine/\E (.ref C) none H1
end
def xH (K:W.Frag) (cv:Value) (sp:Sp) (t:TA) (i:Nat) (ts:TS):TS:=fun D σ H=>t σ H fun vs H1=>sp (vs++[]) H1 (fun v H2=>D.nx (σ.set i (some v)) H2) (fun cls _ H2=>W.exmOne K cls cv=some true/\ts D σ H2)
def QT (k:Nat) (G:Hp->List V->Prop):It :=
 ⟨fun i H=>∃ xs x,G H xs/\xs[i]?=some x,fun i H v H'=>∃ T,v = .ref T/\H T=none/\∀ xs x,G H xs->xs[i]?=some x->H'=upd H T (.tup [.int ((i+k:Nat):Int),x]),fun i H=>∃ xs,G H xs/\xs.length=i⟩
theorem U8 {P:Program} {w:World} {A:Around} {it:Addr} {fp:List Addr} {n:Nat} {R:Nat->Value->Prop} {St:Nat->Heap->Prop} (D:Draws P w A it fp n R St) (k:Nat) :
  Draws P w A it fp (n+k) (fun i v=>∃ j,i=j+k/\R j v) (fun i h=>∃ j,i=j+k/\St j h) where
 live:=fun i h ⟨j,_,st⟩=>D.live j h st
 frame:=fun i h h' ⟨j,e,st⟩ q=>⟨j,e,D.frame j h h' st q⟩
 item:=fun i s Q E hi ⟨j,e,st⟩ hQ=>by
  subst e;exact D.item j s Q E (by omega) st fun x h' tk p st' sb=>hQ x h' tk ⟨j,rfl,p⟩ ⟨j+1,by omega,st'⟩ sb
 done:=fun s Q E ⟨j,e,st⟩ hE=>by
  have:j=n:=by omega
  subst this;exact D.done s Q E st hE
theorem Yd2 {P:Program} {w:World} {K:W.Frag} {elts:List Expr} {kk:Nat} {pos:Pos} {a e it:Addr} {k:Nat} {G:Hp->List V->Prop} {inner:Nat->Heap->Prop} (ne:e≠it) (na:e≠a)
  (obj:∀ i h,inner i h->∃ o,h.get? it=some o/\∀ v,o.data ≠ .cell v) (keep:∀ i h h',inner i h->(∀ o,h.get? it=some o->h'.get? it=some o)->inner i h')
  (inj:∀ (X:Cx) pins σ H s xs ys,X.prog=P->X.w=w->X.K=K->Inv X pins σ H s->G H xs->G H ys->xs=ys)
  (dr:∀ (X:Cx) pins σ H s xs i,X.prog=P->X.w=w->X.K=K->X.calm=true->Inv X pins σ H s->G H xs->inner i s.heap->∃ its:List Value,Yx xs its/\∃ St:Nat->Heap->Prop,Draws P w X.A.in1 it [it,a] its.length (fun i v=>its[i]?=some v) St/\St i s.heap/\∀ i h,St i h->inner i h) :
  Turn P w K (.Tuple elts kk pos) (QT k G) [e,it] e (fun i h=>(∃ old,IsEnum h e it ((i+k:Nat):Int) old)/\inner i h) where
 mem:=by simp
 obj:=fun i h ⟨⟨old,he⟩,hi⟩ c hc=>by
  simp only [List.mem_cons,List.not_mem_nil,or_false] at hc;rcases hc with rfl | rfl
  ·exact ⟨_,he,fun v z=>by cases z⟩
  ·exact obj i h hi
 keep:=fun i h h' ⟨⟨old,he⟩,hi⟩ q=>⟨⟨old,q e (by simp) _ he⟩,keep i h h' hi fun o z=>q it (by simp) o z⟩
 item:=by
  intro X hP hw hK hc i pins s σ H E I hf ⟨⟨old,he⟩,hi⟩ hg;obtain ⟨xs,x,g1,hx⟩:=hg;obtain ⟨its,rv,St,D,hst,hin⟩:=dr X pins σ H s xs i hP hw hK hc I g1 hi;subst hP hw hK;have hlen:=rv.length;have hil:i<xs.length:=(List.getElem?_eq_some_iff.mp hx).1;refine wpAny_pyNext_enum_itemD (U8 D k) he ⟨i,rfl,hst⟩ (by omega) ne (fun z=>?_) fun u h1 tk hu ho hi1 hT hsz kp=>?_
  ·simp only [List.mem_cons,List.not_mem_nil,or_false] at z
   rcases z with z | z
   ·exact ne z
   ·exact na z
  refine ⟨_,rfl,?_⟩;refine wpAny_letOwnedTupleGo_enum (s:={ s with heap:=h1,toks:=tk+1 }) ho fun h2 he2 sb=>?_
  have elt:e<s.heap.objs.size:=Heap.lt_size he;have ilt:it<s.heap.objs.size:=by obtain ⟨o,q,_⟩:=obj i _ hi;exact Heap.lt_size q
  have jt:∀ c o,c∉[e,it]->s.heap.get? c=some o->h2.get? c=some o:=fun c o hm z=>by
   have c1:c≠e:=fun q=>hm (by simp [q])
   have c2:c≠it:=fun q=>hm (by simp [q])
   exact sb.extBut c o c1 (kp c o c1 c2 z)
  obtain ⟨j,ej,hu⟩:=hu;have ej:j=i:=by omega
  subst ej;obtain ⟨u',hu',ru⟩:=rv.get hx;rw [hu] at hu'
  cases hu'
  have hT2:h2.get? s.heap.objs.size=some { cls := .type "tuple",data := .seq #[.int ((j+k:Nat):Int) tk,u] }:=sb.extBut _ _ (Nat.ne_of_gt elt) hT;have I':=I.mR (t':=tk+1) (h':=h2) (T:=s.heap.objs.size) (vs:=[.int ((j+k:Nat):Int),x]) jt hf (Nat.le_refl _) (show Y1 X.prog X.w _ h2 _ (.tup [.int ((j+k:Nat):Int),x]) from ⟨by show 2<=sizeLine;decide,[.int ((j+k:Nat):Int) tk,u],.cons ⟨_,rfl⟩ (.cons ru .nil),_,hT2,rfl,_,rfl⟩);have fresh:H s.heap.objs.size=none:=I.hok.fresh (Nat.le_refl _);obtain ⟨j',Hs,st'⟩:=hi1;have Hs:j'=j+1:=by omega
  subst Hs;refine ⟨.ref s.heap.objs.size,_,I',rfl,⟨_,rfl,fresh,fun xs' x' wX hx'=>?_⟩,⟨⟨u,?_⟩,keep _ _ _ (hin _ _ st') fun o z=>sb.extBut _ _ (Ne.symm ne) z⟩,fun c hm=>?_⟩
  ·rw [inj X pins σ H s _ _ rfl rfl rfl I wX g1,hx] at hx'
   cases hx'
   rfl
  ·have e2:(((j+1+k:Nat)):Int)=((j+k:Nat):Int)+1:=by omega
   rw [e2];simpa using he2
  ·have h0:=(hf c hm).1
   have wY:c<s.heap.objs.size:=by
    simp only [List.mem_cons,List.not_mem_nil,or_false] at hm;rcases hm with rfl | rfl
    ·exact elt
    ·exact ilt
   rw [Yg (Nat.ne_of_lt wY)];exact h0
 done:=by
  intro X hP hw hK hc i pins s σ H E I hf ⟨⟨old,he⟩,hi⟩ hg;obtain ⟨xs,g1,hx⟩:=hg;obtain ⟨its,rv,St,D,hst,hin⟩:=dr X pins σ H s xs i hP hw hK hc I g1 hi;subst hP hw hK;have hlen:=rv.length;obtain ⟨f0,f1,f2,f3,f4,f5⟩:=hf it (by simp);exact wpAny_pyNext_enum_endD (U8 D k) he ⟨i,by omega,hst⟩ fun h' eb=>⟨rfl,I.turned (t':=s.toks) (fun b o hb z=>eb b o hb z) f0 f1 f3 f4 f5⟩
 self:=fun _ _ _ _ _ ⟨⟨_,he⟩,_⟩ h=>wpAny_pyIter_enum he h
section
variable {prog:Program} {w:World} {A:Around} {E:Value->Shared->Prop} {s:Shared}
theorem YcS {it t:Addr} {i:Nat} {its:Array Value} {x:Value} {Q:Value->Shared->Prop} (hit:IsTupIter s.heap it t i) (ht:IsTup s.heap t its) (hx:its[i]?=some x)
  (hQ:∀ h',IsTupIter h' it t (i+1)->Heap.SameBut it s.heap h'->Q x { s with heap:=h' }):wpAny (model prog w) A (Builtin.SmallTypes.nextOf (.ref it)) Q E s:=by
 have hT:=hit.typeIs;obtain ⟨o,ho,hc,hd⟩:=hit;obtain ⟨ot,hot,_,nt,hdt⟩:=ht;unfold Builtin.SmallTypes.nextOf;refine wpAny_bind (wpAny_callSpecial?_slot (name:=Str.ofString "__next__") hT slot_tupleiter_next (wpAny_call_entry slot_tupleiter_next hT entry_tupleiter_next ?_ (args_tupleiter_next _)))
 change wpAny _ _ (field (.ref it) 0 >>= _) _ _ s
 refine wpAny_bind (wpAny_field (x := .ref t) ho hd rfl ?_)
 change wpAny _ _ (if (Value.ref t==Value.none)=true then _ else _) _ _ s
 rw [if_neg (show ¬ (Value.ref t==Value.none)=true from Bool.false_ne_true)]
 change wpAny _ _ (field (.ref it) 1 >>= _) _ _ s
 refine wpAny_bind (wpAny_field (x := .int i 0) ho hd rfl ?_)
 change wpAny _ _ (seqItems? (.ref t) >>= _) _ _ s
 refine wpAny_bind (wpAny_seqItems hot hdt ?_);simp only [hx,Int.toNat_natCast];refine wpAny_bind (wpAny_setField ho hd (by simp) (wpAny_pure ⟨x,rfl,wpAny_pure (hQ _ ⟨_,Heap.get?_update_self _ ho (Obj.isFreed_of_fields (Obj.data_mapFields hd _)),(Obj.cls_mapFields ..).trans hc,?_⟩ (Heap.SameBut.update ..))⟩));rw [Obj.data_mapFields hd];simp [rawInt]
theorem Yd3 {it t:Addr} {i:Nat} {its:Array Value} {Q:Value->Shared->Prop} (hh:A.handled=none) (hit:IsTupIter s.heap it t i) (ht:IsTup s.heap t its) (hx:its[i]?=none)
  (hE:∀ h' e,Heap.ExtBut it s.heap h'->(∃ o,h'.get? e=some o/\o.cls = .type "StopIteration")->E (.ref e) { s with heap:=h' }):wpAny (model prog w) A (Builtin.SmallTypes.nextOf (.ref it)) Q E s:=by
 have hT:=hit.typeIs;obtain ⟨o,ho,hc,hd⟩:=hit;obtain ⟨ot,hot,_,nt,hdt⟩:=ht;unfold Builtin.SmallTypes.nextOf;refine wpAny_bind (wpAny_callSpecial?_slot (name:=Str.ofString "__next__") hT slot_tupleiter_next (wpAny_call_entry slot_tupleiter_next hT entry_tupleiter_next ?_ (args_tupleiter_next _)))
 change wpAny _ _ (field (.ref it) 0 >>= _) _ _ s
 refine wpAny_bind (wpAny_field (x := .ref t) ho hd rfl ?_)
 change wpAny _ _ (if (Value.ref t==Value.none)=true then _ else _) _ _ s
 rw [if_neg (show ¬ (Value.ref t==Value.none)=true from Bool.false_ne_true)]
 change wpAny _ _ (field (.ref it) 1 >>= _) _ _ s
 refine wpAny_bind (wpAny_field (x := .int i 0) ho hd rfl ?_)
 change wpAny _ _ (seqItems? (.ref t) >>= _) _ _ s
 refine wpAny_bind (wpAny_seqItems hot hdt ?_);simp only [hx,Int.toNat_natCast];refine wpAny_bind (wpAny_rule (wpAny_bind (wpAny_setField ho hd (by simp) ?_)))
 change wpAny _ _ (newExc (.type "StopIteration") [] >>= _) _ _ _
 refine wpAny_bind ?_;simp only [newTuple,newExc];refine wpAny_bind (wpAny_newObj_type ?_ (by size_fits));refine wpAny_bind (m:=firstArgMember _ _) (wpAny_of_eq (a:=Value.none) (by first | (simp only [firstArgMember];rfl) | rfl) ?_);refine wpAny_newObj_type ?_ (by size_fits);simp only [raiseNew];refine wpAny_bind (wpAny_handled ?_)
 first | rw [hh] | rw [show A.in1.handled=none from hh]
 exact wpAny_bind (wpAny_pure (wpAny_throw (hE _ _ (((Heap.SameBut.update ..).extBut.push _).push _) ⟨_,Heap.get?_push_size _ rfl,rfl⟩)))
theorem Yd4 (hh:A.handled=none) (it t:Addr) (ne:t≠it) (its:Array Value):Draws prog w A it [it,t] its.size (fun i v=>its[i]?=some v) (fun i h=>IsTupIter h it t i/\IsTup h t its) where
 live:=fun _ _ st=>let ⟨o,ho,_⟩:=st.1;⟨o,ho⟩
 frame:=fun _ _ _ st hk=>⟨let ⟨o,ho,r⟩:=st.1;⟨o,hk it (by simp) o ho,r⟩,let ⟨o,ho,r⟩:=st.2;⟨o,hk t (by simp) o ho,r⟩⟩
 item:=fun i s Q E hi st hQ=>by
  refine YcS st.1 st.2 (x:=its[i]) (by simp [hi]) fun h' hit' hs'=>?_
  exact hQ _ h' s.toks (by simp [hi]) ⟨hit',let ⟨o,ho,r⟩:=st.2;⟨o,hs'.extBut t o ne ho,r⟩⟩ hs'
 done:=fun s Q E st hE=>Yd3 hh st.1 st.2 (by simp) hE
open AutoSeq1 (wpAny_loadPart') in
theorem Yby (l:Addr) (o:Obj) (its:Array Value) (n:Nat) (hc:o.cls = .type "tuple") (hd:o.data = .seq its n) :
  Meets (Builtin.«enumerate.__new__» ⟨[.type "enumerate",.ref l],[]⟩) (fun _ R s=>s.heap.get? l=some o /\
   R (.ok (.ret (.ref (s.heap.push { cls := .type "tuple_iterator",data := .fields #[.ref l,.int 0 0] }).objs.size)))
    { s with heap:=(s.heap.push { cls := .type "tuple_iterator",data := .fields #[.ref l,.int 0 0] }).push { cls := .type "enumerate",data := .fields #[.none,.bool false,.ref s.heap.objs.size,rawInt 0,.none,.none] } }) :=
 .of_wp fun prog w A R s h=>by
  obtain ⟨hp,g,d,tk,os⟩:=s;obtain ⟨hl,h⟩:=h;have hsub:=sub_enumerate;have hL:IsTup (Shared.heap ⟨hp,g,d,tk,os⟩) l its:=⟨o,hl,hc,n,hd⟩
  wp_walk using wpAny_loadPart' hl
  refine wpAny_stack_any fun st=>wpAny_pure ?_
  split
  ·rename_i c _ _ _ _ _
   cases (c==Value.type "enumerate")
   ·wp_walk using wpAny_loadPart' hl,iter_tuple hL
    exact ⟨_,rfl,h⟩
   ·wp_walk using wpAny_loadPart' hl,iter_tuple hL
    exact ⟨_,rfl,h⟩
  ·wp_walk using wpAny_loadPart' hl,iter_tuple hL
   exact ⟨_,rfl,h⟩
theorem YcT {l:Addr} {its:Array Value} {Q:Value->Shared->Prop} (hL:IsTup s.heap l its)
  (h:∀ h',IsEnum h' (s.heap.objs.size+1) s.heap.objs.size 0 .none->IsTupIter h' s.heap.objs.size l 0->(∀ b o,s.heap.get? b=some o->h'.get? b=some o)->Q (.ref (s.heap.objs.size+1)) { s with heap:=h' }) :
  wpAny (model prog w) A (call (.type "enumerate") [.ref l]) Q E s:=by
 obtain ⟨o,hl,hc,n,hd⟩:=hL;refine callType_new F.called_enumerate (by decide) (F.typeCall_enumerate_1 _) (F.newCall_enumerate_1 _) (fun obj=>F.args_object_init_2 obj _) F.entry_enumerate_new (Yby l o its n hc hd) ⟨hl,?_⟩;have hz:(s.heap.push { cls := .type "tuple_iterator",data := .fields #[.ref l,.int 0 0] }).objs.size=s.heap.objs.size+1:=Heap.size_push ..
 change _/\_
 rw [hz];have he:IsEnum ((s.heap.push { cls := .type "tuple_iterator",data := .fields #[.ref l,.int 0 0] }).push { cls := .type "enumerate",data := .fields #[.none,.bool false,.ref s.heap.objs.size,rawInt 0,.none,.none] }) (s.heap.objs.size+1) s.heap.objs.size 0 .none:=by
  have z:=Heap.get?_push_size (s.heap.push { cls := .type "tuple_iterator",data := .fields #[.ref l,.int 0 0] }) (o:={ cls := .type "enumerate",data := .fields #[.none,.bool false,.ref s.heap.objs.size,rawInt 0,.none,.none] }) rfl;rw [hz] at z
  exact z
 exact ⟨⟨_,he,rfl⟩,h _ he ⟨_,Heap.get?_push_of_some _ (Heap.get?_push_size _ rfl),rfl,rfl⟩ fun b o x=>Heap.get?_push_of_some _ (Heap.get?_push_of_some _ x)⟩
end
section
variable {X:Cx} {elts:List Expr} {kk:Nat} {tpos:Pos}
theorem YcU {P:Program} {w:World} {K:W.Frag} {pos:Pos} {a e it:Addr} (ne:e≠it) (na:e≠a) (nt:a≠it) :
  Turn P w K (.Tuple elts kk pos) (QT 0 fun H xs=>au K H a xs) [e,it] e (fun i h=>(∃ old,IsEnum h e it ((i+0:Nat):Int) old)/\IsTupIter h it a i):=by
 refine Yd2 ne na (fun i h ⟨o,q,_,d⟩=>⟨o,q,fun v z=>by rw [d] at z;cases z⟩) (fun i h h' ⟨o,q,r⟩ k=>⟨o,k o q,r⟩) (fun X pins σ H s xs ys hP hw hK I g1 g2=>?_) (fun X pins σ H s xs i hP hw hK hc I g1 hi=>?_)
 ·subst hP hw hK
  exact I.iC g1 g2
 ·subst hP hw hK
  obtain ⟨its,rv,pl,hz⟩:=I.tuple g1;refine ⟨its,rv,fun i h=>IsTupIter h it a i/\IsTup h a its.toArray,by simpa using Yd4 (prog:=X.prog) (w:=X.w) (A:=X.A.in1) (I.ok.hd hc) it a nt its.toArray,⟨hi,pl⟩,fun i h st=>st.1⟩
def Ht (K:W.Frag) (ta:TA):TI:=fun σ H R=>ta σ H fun vs H1=>∃ a xs,vs=[.ref a]/\au K H1 a xs/\R (QT 0 fun H xs=>au K H a xs) H1
theorem Ye5 {a:Expr} {ta:TA} {p pos:Pos} (hg:Gl X "enumerate") (hm:X.mg "enumerate"=none) (ha:PA X [a] ta) (hs:starEach [a] X.env=[(false,eval a X.env)]) :
  PI X (.Tuple elts kk tpos) (.Call (.Name "enumerate" p) [a] [] pos) (Ht X.K ta):=by
 intro pins s σ H R I h;refine Call_ (Wl I hg hm boot_enumerate (PyProof.Rows.callWith_type1 (aG (ha pos pins s σ H _ I h) fun us s1 hz=>?_) hs rfl));obtain ⟨vs,H1,I1,r1,x,xs,e,hx,q⟩:=hz;subst e;obtain ⟨u,rfl,ru⟩:=W1 r1
 cases ru
 obtain ⟨i1,_,pl,_⟩:=I1.tuple hx;have l1:x<s1.heap.objs.size:=by obtain ⟨_,e,_⟩:=pl;exact Heap.lt_size e
 refine YcT pl fun h' he hi keep=>?_
 refine wpAny_pyIter_enum he ?_;have I2:Inv X pins σ H1 { s1 with heap:=h' }:=I1.kept (t':=s1.toks) keep;have l1':@LT.lt Nat _ x s1.heap.objs.size:=l1;refine ⟨_,[s1.heap.objs.size+1,s1.heap.objs.size],_,_,H1,rfl,I2,YcU (by intro z;have z':@Eq Nat _ _:=z;omega) (by intro z;have z':@Eq Nat _ _:=z;omega) (by intro z;have z':@Eq Nat _ _:=z;omega),⟨⟨_,he⟩,hi⟩,fun c hc=>?_,q⟩;have hle:s1.heap.objs.size<=c:=by
  simp only [List.mem_cons,List.not_mem_nil,or_false] at hc;rcases hc with e | e<;>(have e':@Eq Nat _ _:=e;show @LE.le Nat _ s1.heap.objs.size c;omega)
 exact I1.fC hle (I1.hok.fresh hle)
end
section
variable {g:TG} {tb:TS} {D:Ends} {σ:St} {H:Hp}
theorem Ye6 {k:Nat} {G:Hp->List V->Prop} {xs:List V} (Pv:Nat->St->Hp->Prop) (h0:Pv 0 σ H) (hl:∀ i σ H,i<=xs.length->Pv i σ H->G H xs)
  (hs:∀ i x σ H T,xs[i]?=some x->Pv i σ H->H T=none->g (.ref T) σ (upd H T (.tup [.int ((i+k:Nat):Int),x])) fun σ2 H2=>tb { D with nx:=Pv (i+1),ct:=Pv (i+1),bk:=D.nx } σ2 H2) (hd:∀ σ H,Pv xs.length σ H->D.nx σ H) :
  ∃ W:Nat->Nat->St->Hp->Prop,(∃ m,W 0 m σ H)/\∀ i m σ H,W i m σ H ->
   ((QT k G).stop i H/\D.nx σ H)\/((QT k G).go i H/\∃ N:St->Hp->Prop,(∀ σ' H',N σ' H'->∃ m',m'<m/\W (i+1) m' σ' H')/\∀ x H',(QT k G).mD i H x H'->g x σ H' fun σ2 H2=>tb { D with nx:=N,ct:=N,bk:=D.nx } σ2 H2):=by
 refine ⟨fun i m σ H=>m=xs.length - i/\i<=xs.length/\Pv i σ H,⟨xs.length,by simp,Nat.zero_le _,h0⟩,?_⟩;rintro i m σ H ⟨rfl,hi,p⟩;have q:=hl i σ H hi p;by_cases hlt:i<xs.length
 ·have hx:xs[i]?=some xs[i]:=List.getElem?_eq_getElem hlt
  refine .inr ⟨⟨xs,_,q,hx⟩,Pv (i+1),fun σ' H' p'=>⟨xs.length - (i+1),by omega,rfl,hlt,p'⟩,?_⟩;rintro v H' ⟨T,rfl,hT,heq⟩;have e:=heq xs _ q hx;subst e;exact hs i _ σ H T hx p hT
 ·have e:i=xs.length:=by omega
  subst e;exact .inl ⟨⟨xs,q,rfl⟩,hd σ H p⟩
theorem YcV {K:W.Frag} {ta:TA} {a:Addr} {xs:List V} (Pv:Nat->St->Hp->Prop) (ha:∀ R:List V->Hp->Prop,R [.ref a] H->ta σ H R) (h0:Pv 0 σ H) (hl:∀ i σ H,i<=xs.length->Pv i σ H->au K H a xs)
  (hs:∀ i x σ H T,xs[i]?=some x->Pv i σ H->H T=none->g (.ref T) σ (upd H T (.tup [.int (i:Int),x])) fun σ2 H2=>tb { D with nx:=Pv (i+1),ct:=Pv (i+1),bk:=D.nx } σ2 H2) (hd:∀ σ H,Pv xs.length σ H->D.nx σ H):QM (Ht K ta) g tb D σ H:=by
 refine ha _ ⟨a,xs,rfl,hl 0 σ H (Nat.zero_le _) h0,?_⟩;exact Ye6 Pv h0 hl (fun i x σ H T hx p hT=>hs i x σ H T hx p hT) hd
end
def Oc (a:Addr) (cls:Value) (dc:Option Addr):HO := .ext fun h=>∃ o vs,h.get? a=some o/\o.cls=cls/\o.data = .fields vs/\o.dict=dc
def Ends.gone (D:Ends) (j:Nat):Ends:={ nx:=fun σ H=>D.nx (σ.set j none) H,rt:=D.rt,bk:=fun σ H=>D.bk (σ.set j none) H,ct:=fun σ H=>D.ct (σ.set j none) H }
def Hu (K:W.Frag) (cv:Value) (sp:Sp) (t:TA) (i j:Nat) (ts:TS):TS:=fun D σ H=>t σ H fun vs H1=>sp (vs++[]) H1 (fun v H2=>D.nx (σ.set i (some v)) H2) (fun cls dc H2=>W.exmOne K cls cv=some true/\∀ a,H2 a=none->ts (D.gone j) (σ.set j (some (.ref a))) (upd H2 a (Oc a cls dc)))
section
variable {X:Cx}
theorem Yg7 {g:Gx} {x:Str} {C:Addr} {pos:Pos} (h:g.mg x=some (.ref C)) (hX:X.gx=g:=by rfl) (hg:Gl X x:=by rfl) (hd:(x==("__debug__":Str))=false:=by decide):PE X (.Name x pos) (tC (.ref C)):=by
 subst hX;exact QL hg h rfl hd
end
theorem YV {K:W.Frag} {C:Addr} {f:Str} (h:W.findIn K (.ref C) f=some none):Yc K C f:=h
section
variable {src:List (Option Nat)} {te:TE} {σ:St} {H:Hp} {Q:VK}
theorem Ye8 {K:W.Frag} {tl:TE} {xs:List V} (ys:List V) (ha:∀ R:V->Hp->Prop,(∀ a H1,Yj H H1->au K H1 a xs->R (.ref a) H1)->tl σ H R) (hl:ys.length=xs.length) (hlen:xs.length<=100000)
  (step:∀ (i:Nat) x y H',xs[i]?=some x->ys[i]?=some y->Yj H H'->∀ R:VK,(∀ aK,Yj H' aK->R y aK)->te (some x::YI src σ) H' R)
  (fin:∀ D H',H D=none->Yj H H'->H' D=some (.lst ys)->Q (.ref D) H'):d7 (none::src) (tX K tl) (YG 0) Wa te σ H Q :=
 ha _ fun a H1 s1 hS=>⟨a,rfl,⟨xs,hS⟩,fun D hD=>Hg (Ut.imp fun H' (e:Yj H1 H')=>e.tup hS) ys (fun _ e=>e) hD hl hlen (fun i x y H' hx hy sm R r=>step i x y H' hx hy (s1.trans sm) R r) fun H' sm=>fin D H' (s1.free hD) (s1.trans sm)⟩
end
def eV (K:W.Frag) (H:Hp) (a:Addr) (xs:List V):Prop:=Rd H a (.lst xs)\/∃ (its:Array Value) (n:Nat),K.lookup a=some { cls := .type "list",data := .seq its n }/\its.size<=sizeLine/\Yx xs its.toList
theorem eV.sq {K:W.Frag} {H:Hp} {a:Addr} {xs:List V} (h:eV K H a xs):ao K H a xs:=by
 rcases h with h | ⟨its,n,h1,h2,h3⟩
 ·exact .inl h
 ·exact .inr ⟨_,its,n,h1,rfl,rfl,rfl,h2,h3⟩
theorem eV.of {K:W.Frag} {H:Hp} {a:Addr} {xs:List V} (h:H a=some (.lst xs)):eV K H a xs := .inl (.of h)
theorem eV.keep {K:W.Frag} {H H':Hp} {a:Addr} {xs:List V} (h:eV K H a xs) (s:Yj H H'):eV K H' a xs:=by
 rcases h with h | h
 ·rcases h with h | ⟨o,h⟩
  ·exact .inl (.inl (s _ _ h))
  ·exact .inl (.inr ⟨o,s _ _ h⟩)
 ·exact .inr h
section
variable {X:Cx}
theorem Inv.uK {pins:List (Addr×Obj)} {σ:St} {H:Hp} {s:Shared} {a:Addr} {xs:List V} (I:Inv X pins σ H s) (h:eV X.K H a xs):∃ (its:List Value) (n:Nat),Yx xs its/\s.heap.get? a=some { cls := .type "list",data := .seq its.toArray n }/\xs.length<=sizeLine:=by
 rcases h with h | ⟨its,n,hk,hz,r⟩
 ·obtain ⟨z,its,n,r,e⟩:=h.ok I.hok
  exact ⟨its,n,r,e,z⟩
 ·refine ⟨its.toList,n,r,by simpa using I.bA a _ hk,?_⟩
  have e:=r.length;simp only [Array.length_toList] at e;omega
def Ek (K:W.Frag):R2:=fun x y H Q=>∃ l b xs zs,x = .ref l/\y = .ref b/\eV K H l xs/\eV K H b zs/\xs.length+zs.length<=sizeLine/\∀ p,H p=none->Q (.ref p) (upd H p (.lst (xs++zs)))
theorem Ygm:bw X (binaryOp .Add) (Ek X.K):=by
 intro pins s σ H x y v u Q I rx ry h;obtain ⟨l,b,xs,zs,rfl,rfl,hH,hB,hz,q⟩:=h
 cases rx
 cases ry
 obtain ⟨its,n,r,e,z⟩:=I.uK hH;obtain ⟨its2,n2,r2,e2,z2⟩:=I.uK hB;have l1:=r.length;have l2:=r2.length;refine PySem.P.add_list e e2 ?_ (by rw [List.size_toArray,List.size_toArray];omega);have ea:its.toArray++its2.toArray=(its++its2).toArray:=by simp
 rw [ea];exact ⟨.ref _,_,I.sy (t':=s.toks) (r.append r2) (by rw [List.length_append];omega),rfl,q _ I.fresh⟩
end
def UM (K:W.Frag):Sp:=fun vs H Q _=>∃ (a:Addr) (ns:List Int),vs=[.ref a]/\eV K H a (ns.map V.int)/\ns.length<=63/\∀ H',Q (.bl true) H'
theorem Ye9 {l:PySem.W.OpenLaw} {q:Program} {loose:List Str} {XP:(Str->Option Value)->Heap->Prop} {YP:World->Heap->Prop} {d:DefRec} {K:Params->PySem.W.Frag} (k:Nat) (x:Str) (st:Stmt) (N:List Str) (hn:l.most=some 63) (hdf:d.params.defaults=[]) (hk:aQ (k+1) callerA) (S:ak N [x] (Yi st))
  (hY:∀ (w:World) (h:Heap),YP w h->(K w.params).In h)
  (F:∀ (w:World) (mg:Str->Option Value) (h:Heap),(K w.params).In h->h.Ns mainGlobals mg->G5 (K w.params) mg st x d.name/\∀ base,Uu (Gx.mk l.prog w (K w.params) mg base) k N d.name st (UM (K w.params))) :
  PySem.W.WalkO q loose XP YP l.row.toRowW d [] (fun f vs=>PySem.call f vs):=by
 refine Gv.lC hn hdf fun w s₀ s₁ mg mb fa o pm cd doc a vs ns G Y ho hd hcd hmg hobj hints hlen hg=>?_
 have KX:=hY w _ Y;obtain ⟨⟨f,fd,Fu,hb,hm⟩,B⟩:=F w mg _ KX G.T.g;have e:=hmg.symm.trans hm
 cases e
 refine Sx (CX:=fX) (sp:=UM (K w.params)) KX G.T.g G.T.b G.T.builtins G.T.nolimit hg hobj hints (Nat.le_trans hlen (by decide)) hk (fun base _ _=>Fu.ok S (fun vs H Q E h=>by obtain ⟨a,ns,rfl,_⟩:=h;rfl) fun cdv A outer s H vs Q E hr h=>B base fa cdv A outer s H vs Q E hr h) hb (fun H hO hS=>⟨a,ns,rfl,?_,hlen,fun _=>rfl⟩) fun _ _ _ z=>z
 rcases hS with h | ⟨o',its,n,hk',h1,h2,h3,h4,h5⟩
 ·exact .inl h
 ·have e2:=KX a o' hk'
  rw [hobj] at e2
  cases e2
  cases h3
  exact .inr ⟨_,_,hk',h4,h5⟩
theorem Yw (es:List Expr) (x:Nat) (p:Pos) (es':List Expr) (env:Env):starEach (.Tuple es x p::es') env=(false,eval (.Tuple es x p) env)::starEach es' env:=rfl
section
variable {src:List (Option Nat)} {te:TE} {σ:St} {Q:VK}
variable {X:Cx} {H:Hp}
theorem Hv {g:Gx} {j k:Nat} {x:Str} {ps:List Str} {sp:Sp} {p pos:Pos} (F:g.Fn j x ps sp) (hr:aQ k X.A) (hj:j<=k) (hX:X.gx=g) (hg:Gl X x) (hdb:(x==("__debug__":Str))=false):PE X (.Call (.Name x p) [] [] pos) (XS sp [] E0 XF):=by
 subst hX;obtain ⟨f,fd,F,b,kp,hm⟩:=F;exact RG F (hr.mono hj) hg hm kp b .nil Vw hdb
theorem Yd8 {K:W.Frag} {tl:TE} {xs:List V} (ts:List (List V)) (ha:∀ R:V->Hp->Prop,(∀ a H1,Yj H H1->au K H1 a xs->R (.ref a) H1)->tl σ H R) (hl:ts.length=xs.length) (hlen:xs.length<=100000)
  (step:∀ (i:Nat) x t H',xs[i]?=some x->ts[i]?=some t->Yj H H'->∀ R:VK,(∀ a aK,Yj H' aK->aK a=some (.tup t)->R (.ref a) aK)->te (some x::YI src σ) H' R)
  (fin:∀ D (as:List Addr) H',H D=none->Yj H H'->H' D=some (.lst (as.map V.ref))->as.length=xs.length->(∀ (j:Nat) a t,as[j]?=some a->ts[j]?=some t->H' a=some (.tup t))->Q (.ref D) H'):d7 (none::src) (tX K tl) (YG 0) Wa te σ H Q :=
 ha _ fun a H1 s1 hS=>⟨a,rfl,⟨xs,hS⟩,fun D hD=>Ygl (Ut.imp fun H' (e:Yj H1 H')=>e.tup hS) ts (fun _ e=>e) hD hl hlen (fun i x t H' hx ht sm R r=>step i x t H' hx ht (s1.trans sm) R r) fun as H' sm=>fin D as H' (s1.free hD) (s1.trans sm)⟩
end
end L2
namespace L2
open PySem
mutual
inductive VL (H:Hp):V->PyData->List Addr->Prop
 | int (i:Int):VL H (.int i) (.int i) []
 | str (x:Str) (h:PyData.strOk x=true):VL H (.str x) (.str x) []
 | lst {a:Addr} {vs:List V} {ds:List PyData} {L:List Addr}:H a=some (.lst vs)->vs.length<=10000->pL H vs ds L->VL H (.ref a) (.list ds) (a::L)
 | tup {a:Addr} {vs:List V} {ds:List PyData} {L:List Addr}:H a=some (.tup vs)->vs.length<=10000->pL H vs ds L->VL H (.ref a) (.tuple ds) L
inductive pL (H:Hp):List V->List PyData->List Addr->Prop
 | nil:pL H [] [] []
 | cons {v:V} {d:PyData} {L:List Addr} {vs:List V} {ds:List PyData} {L':List Addr}:VL H v d L->pL H vs ds L'->pL H (v::vs) (d::ds) (L++L')
end
end L2
namespace L2
open PySem
section
variable {src:List (Option Nat)} {te:TE} {σ:St} {H:Hp} {Q:VK}
theorem V9 {ta:TA} {n:Nat} (I:Addr->Nat->List V->Hp->Prop) (ha:∀ R:List V->Hp->Prop,R [.int n] H->ta σ H R) (hlen:n<=100000)
  (i0:∀ D,H D=none->I D 0 [] (upd H D (.lst []))) (dl:∀ D i zs H',I D i zs H'->zs.length=i/\H' D=some (.lst zs))
  (step:∀ D (i:Nat) zs H',H D=none->i<n->I D i zs H'->∀ R:VK,(∀ y aK,aK D=some (.lst zs)->I D (i+1) (zs++[y]) (upd aK D (.lst (zs++[y])))->R y aK)->te (some (.int i)::YI src σ) H' R)
  (fin:∀ D zs H',H D=none->I D n zs H'->Q (.ref D) H'):d7 (none::src) (wA ta) (YG 0) Wa te σ H Q:=by
 refine ha _ ⟨n,rfl,by omega,by omega,fun D hD=>?_⟩;have h6:100000<sizeLine:=by decide
 refine Vy (U6 (lo:=0) (n:=n) (P:=fun _=>True)) (fun i zs σ' H'=>(∃ o,σ'=o::YI src σ)/\i<=n/\I D i zs H') ⟨⟨none,rfl⟩,Nat.zero_le _,i0 D hD⟩ (fun i zs σ' H' q=>⟨trivial,(dl _ _ _ _ q.2.2).2⟩) (X3 0) ?_ ?_
 ·rintro i zs σ' H' x hx ⟨⟨o,rfl⟩,_,hI⟩
  have hi:i<n:=by have:=(List.getElem?_eq_some_iff.mp hx).1;simpa using this
  rw [List.getElem?_map,List.getElem?_range hi] at hx
  have e:V.int (0+(i:Int))=x:=Option.some.inj hx;rw [Int.zero_add] at e
  subst e;have hl:=(dl _ _ _ _ hI).1
  show te (some (.int i)::YI src σ) H' _
  exact step D i zs H' hD hi hI _ fun y aK hd hI'=>⟨hd,by omega,⟨_,rfl⟩,hi,hI'⟩
 ·rintro zs σ' H' ⟨_,_,hI⟩
  exact fin D zs H' hD (by simpa using hI)
end
end L2
namespace L2
open PySem PySem.Spec PyProof.Rows
def Ygn (l:List Str) (v:Str):List Str:=if l.any (·==v) then l else l++[v]
def met (val:Nat->Str) (i:Nat):List Str:=((List.range i).map val).foldl Ygn []
def Nr (a:Addr) (n:Nat):HO := .ext fun h=>∃ (o:Obj) (es:Array (Int×Value)) (ep:Nat) (t:SetTable),h.get? a=some o/\o.ExactSet/\o.data = .set es ep t/\t.fits es.size=true/\es.size=n/\n<scanBound
section
variable {X:Cx} {e lo st:Expr} {te tl ts:TE} {pos p2:Pos}
def Hw (K:W.Frag) (te tl ts:TE):TE:=fun σ H Q=>te σ H fun x H1=>tl σ H1 fun y H2=>ts σ H2 fun z H3 =>
 ∃ (a:Addr) (xs:List V) (k n:Int),x = .ref a/\y = .int k/\z = .int n/\0<=k/\0<n/\ao K H3 a xs/\∀ p ys,H3 p=none->(∀ v∈ys,v∈xs)->ys.length<=xs.length->Q (.ref p) (upd H3 p (.lst ys))
end
structure uL (K:W.Frag) (B:Addr) (m:Str) (f:Addr):Prop where
 ga:W.specialIn K (.ref B) "__getattribute__"=some (some (.builtin "type.__getattribute__"))
 rd:W.readsIn K B (.type "type")=true
 at_:W.findCls K (.ref B) (.type "type") m=some (.val (.ref f))
 kp:W.keepIn K (.ref f)=true
def Gx.Cf (g:Gx) (k:Nat) (x m:Str) (ps:List Str) (sp:Sp):Prop:=∃ B f fd,bM g.P g.w g.K g.mg g.base fX k f fd ps sp/\Xi g.K fd ps []/\uL g.K B m f/\g.mg x=some (.ref B)
def Gx.ju (g:Gx) (x m qual:Str) (st:Stmt) (ps:List Str):Prop:=∃ B f fd,fY g.K m qual st f fd/\Xi g.K fd ps []/\uL g.K B m f/\g.mg x=some (.ref B)
theorem Gx.Cf.mono {g:Gx} {j k:Nat} {x m:Str} {ps:List Str} {sp:Sp} (F:g.Cf j x m ps sp) (h:j<=k):g.Cf k x m ps sp:=by
 obtain ⟨B,f,fd,F,r⟩:=F;exact ⟨B,f,fd,F.mono h,r⟩
section
variable {g:Gx} {X:Cx} {k j:Nat} {x m:Str} {ps:List Str} {sp:Sp} {e:Expr} {es:List Expr} {t:TA} {p pos apos:Pos}
theorem uM {pl:Sem Bool} (F:g.Cf j x m ps sp) (hr:aQ k X.A) (ha:PA X (e::es) t) (hj:j<=k) (hX:X.gx=g) (hg:Gl X x) (hdb:(x==("__debug__":Str))=false)
  (hst:starEach (e::es) X.env=(false,eval e X.env)::starEach es X.env) (hpl:(backTo pos (starEach es X.env)).any (·.1)=false)
  (ht:eval (.Call (.Attribute (.Name x p) m apos) (e::es) [] pos) X.env=(do
   let ov <- eval (.Name x p) X.env
   standAt apos.atName
   let (f,first) <- holding [ov] (getMethod ov m pl)
   callWith pos f first (backTo pos (starEach (e::es) X.env)) (backToKw pos (keywordEach [] X.env)))):PE X (.Call (.Attribute (.Name x p) m apos) (e::es) [] pos) (XS sp [] E0 t):=by
 subst hX;obtain ⟨B,f,fd,F,b,c,hm⟩:=F;intro pins s σ H Q I h;refine PySem.W.methodCall_KW (pl:=pl) (aG (Yg7 (g:=X.gx) (pos:=p) hm rfl hg hdb pins s σ H (fun v H1=>v = .ref B/\H1=H) I ⟨rfl,rfl⟩) fun u s1 ⟨v,H1,I1,rv,e1,e2⟩=>?_) ht;subst e1 e2;obtain rfl:u=Value.ref B:=rv;refine PySem.W.method_cls I1.bA c.ga (PySem.W.cls_value I1.bA c.rd c.at_ rfl ?_);have I2:=I1.tok (s1.toks+1);refine PySem.W.callWith_K (h₀:=X.base) I.ok.mod.jg c.kp (aG (ha pos pins _ σ H1 _ I2 h) fun us s2 ⟨vs,H2,I3,r,q2⟩=>⟨I3.bA,?_⟩) hst hpl;exact Uq (aU:=[]) (ds:=[]) F (hr.mono hj) b .nil Vw I3 r q2
end
def Hx:R2:=fun y x H Q=>∃ a o,x = .ref a/\sI H a y o/\Q (.bl (!o.isSome)) H
def xJ:R2:=fun y x H Q=>∃ a o,x = .ref a/\sI H a y o/\Q (.bl o.isSome) H
section
variable {K:W.Frag} {h:Heap} {mg:Str->Option Value} {P:Program} {w:World} {base:Heap} {f B:Addr} {x qual m:Str} {st:Stmt} {ps N:List Str} {oc kV dc pm cd ct:Value} {od an:Option Addr} {sl:Array (Option Value)} {g:Gx} {k:Nat} {sp:Sp}
theorem Gx.ju.cf (R:g.ju x m qual st ps) (S:ak N ps (Yi st)) (len:∀ vs H Q E,sp vs H Q E->vs.length=ps.length) (b:Uu g k N qual st sp):g.Cf (k+1) x m ps sp:=by
 obtain ⟨B,f,fd,F,bd,c,hm⟩:=R;exact ⟨B,f,fd,F.ok S len fun cdv A outer s H vs Q E hr h=>b f cdv A outer s H vs Q E hr h,bd,c,hm⟩
theorem Ygo (X:K.In h) (G:h.Ns mainGlobals mg) (ps:List Str) (aB:PySem.W.nsIn K mainGlobals x=some (some (.ref B))) (ga:PySem.W.specialIn K (.ref B) "__getattribute__"=some (some (.builtin "type.__getattribute__")))
  (rd:PySem.W.readsIn K B (.type "type")=true) (a:PySem.W.findCls K (.ref B) (.type "type") m=some (.val (.ref f)))
  (l:K.lookup f=some ⟨oc,od,.func (PySem.W.fnOf m qual (Y9 st) (Y2 st) (Yi st) .none kV dc pm an cd ct),sl⟩) (c:PySem.W.codeIn K cd qual=true) (k:PySem.W.keepIn K (.ref f)=true)
  (b:∀ (kV doc pm:Value) (an:Option Addr) (cdv ct:Value) (us:List Value),us.length=ps.length->bindArgs (PySem.W.fnOf m qual (Y9 st) (Y2 st) (Yi st) .none kV doc pm an cdv ct) ⟨us,[]⟩=pure (ps.zip us)) :
  ∀ P w base,(Gx.mk P w K mg base).ju x m qual st ps:=fun P w base =>
 have F:=Us (st:=st) l c k
 ⟨B,f,_,F,F.binds b,⟨ga,rd,a,k⟩,PySem.W.mg_of X G aB⟩
end
end L2
namespace L2
def Hy (a b:TE):TE:=fun σ H Q=>a σ H Q\/b σ H Q
end L2
namespace L2
open PySem PySem.Spec PyProof.Rows
section
variable {g:TG} {tb:TS} {D:Ends} {σ:St} {H:Hp}
theorem YcW {K:W.Frag} {ta:TA} {a:Addr} {xs:List V} (Pv:Nat->St->Hp->Prop) (ha:∀ R:List V->Hp->Prop,R [.ref a] H->ta σ H R) (h0:Pv 0 σ H) (hl:∀ i σ H,i<=xs.length->Pv i σ H->ao K H a xs)
  (hs:∀ i x σ H T,xs[i]?=some x->Pv i σ H->H T=none->g (.ref T) σ (upd H T (.tup [.int (i:Int),x])) fun σ2 H2=>tb { D with nx:=Pv (i+1),ct:=Pv (i+1),bk:=D.nx } σ2 H2) (hd:∀ σ H,Pv xs.length σ H->D.nx σ H):QM (Hf K ta) g tb D σ H:=by
 refine ha _ ⟨a,xs,rfl,hl 0 σ H (Nat.zero_le _) h0,?_⟩;refine ⟨fun i m σ H=>m=xs.length - i/\i<=xs.length/\Pv i σ H,⟨xs.length,by simp,Nat.zero_le _,h0⟩,?_⟩;rintro i m σ H ⟨rfl,hi,p⟩;have q:=hl i σ H hi p;by_cases hlt:i<xs.length
 ·have hx:xs[i]?=some xs[i]:=List.getElem?_eq_getElem hlt
  refine .inr ⟨⟨xs,_,q,hx⟩,Pv (i+1),fun σ' H' p'=>⟨xs.length - (i+1),by omega,rfl,hlt,p'⟩,?_⟩;rintro v H' ⟨T,rfl,hT,heq⟩;have e:=heq xs _ q hx;subst e;exact hs i _ σ H T hx p hT
 ·have e:i=xs.length:=by omega
  subst e;exact .inl ⟨⟨xs,q,Nat.le_refl _⟩,hd σ H p⟩
end
def off (H:Hp) (cs:List Addr):Hp:=fun b=>if b∈cs then none else H b
def on (H' H:Hp) (cs:List Addr):Hp:=fun b=>if b∈cs then H b else H' b
abbrev uN:=List (Str×Addr×V)
end L2
namespace HT
open PySem PySem.Spec PyProof.Rows
variable {prog:Program} {w:World} {A:Around} {E:Value->Shared->Prop} {s:Shared}
end HT
namespace L2
open PySem PySem.Spec PyProof.Rows
structure Od (K:W.Frag) (x qual:Str) (st:Stmt) (f:Addr) (fd:FuncData) (T:Addr):Prop where
 ex:∃ (oc:Value) (od:Option Addr) (kV doc pm:Value) (an:Option Addr) (cdv ct:Value) (osl:Array (Option Value)),
  fd=W.fnOf x qual (Y9 st) (Y2 st) (Yi st) (.ref T) kV doc pm an cdv ct/\K.lookup f=some ⟨oc,od,.func fd,osl⟩/\W.codeIn K cdv qual=true
 kp:W.keepIn K (.ref f)=true
def Gx.jw (g:Gx) (x qual:Str) (st:Stmt) (ps:List Str) (aU:List V):Prop:=∃ f fd T ds,Od g.K x qual st f fd T/\Yx aU ds/\Xi g.K fd ps ds/\g.mg x=some (.ref f)
def Gx.jx (g:Gx) (k:Nat) (x:Str) (ps:List Str) (aU:List V) (sp:Sp):Prop:=∃ f fd ds,bM g.P g.w g.K g.mg g.base fX k f fd ps sp/\Yx aU ds/\Xi g.K fd ps ds/\W.keepIn g.K (.ref f)=true/\g.mg x=some (.ref f)
section
variable {g:Gx} {x qual:Str} {st:Stmt} {N ps:List Str} {aU:List V} {sp:Sp} {j k:Nat}
theorem Gx.jw.fnD (R:g.jw x qual st ps aU) (S:ak N ps (Yi st)) (len:∀ vs H Q E,sp vs H Q E->vs.length=ps.length) (b:Uu g k N qual st sp):g.jx (k+1) x ps aU sp:=by
 obtain ⟨f,fd,T,ds,F,hv,bd,hm⟩:=R;refine ⟨f,fd,ds,?_,hv,bd,F.kp,hm⟩;obtain ⟨oc,od,kV,doc,pm,an,cdv,ct,osl,rfl,lk,hcd⟩:=F.ex;refine Gi lk hcd S len fun A outer s H vs Q E hr hsp=>?_
 obtain ⟨t,h,q⟩:=b f cdv A outer s H vs Q E hr hsp;exact ⟨t,h.jm,q⟩
theorem Gx.jx.mono (F:g.jx j x ps aU sp) (h:j<=k):g.jx k x ps aU sp:=by
 obtain ⟨f,fd,ds,F,r⟩:=F;exact ⟨f,fd,ds,F.mono h,r⟩
variable {X:Cx} {p pos:Pos} {e:Expr} {es:List Expr} {t:TA}
theorem Yg8 (F:g.jx j x ps aU sp) (hr:aQ k X.A) (ha:PA X (e::es) t) (hj:j<=k) (hX:X.gx=g) (hg:Gl X x) (hdb:(x==("__debug__":Str))=false)
  (he:starEach (e::es) X.env=(false,eval e X.env)::starEach es X.env) (hpl:(backTo pos (starEach es X.env)).any (·.1)=false):PE X (.Call (.Name x p) (e::es) [] pos) (XS sp aU E0 t):=by
 subst hX;obtain ⟨f,fd,ds,F,hv,b,kp,hm⟩:=F;exact FZ F (hr.mono hj) hg hm kp b hv Vw ha hdb he hpl
end
theorem Ygp {K:W.Frag} {h:Heap} {mg:Str->Option Value} {f T:Addr} {x:Str} {st:Stmt} {oc kV dc pm cd ct:Value} {od an:Option Addr} {sl:Array (Option Value)} {o:Obj} {items:Array Value} {n:Nat} (X:K.In h) (G:h.Ns mainGlobals mg) (ps:List Str) (aU:List V) (nb:Nat)
  (a:W.nsIn K mainGlobals x=some (some (.ref f))) (l:K.lookup f=some ⟨oc,od,.func (W.fnOf x x (Y9 st) (Y2 st) (Yi st) (.ref T) kV dc pm an cd ct),sl⟩) (c:W.codeIn K cd x=true) (k:W.keepIn K (.ref f)=true)
  (t:K.lookup T=some o) (s:o.data = .seq items n) (v:Yx aU items.toList) (e:nb+items.toList.length=ps.length)
  (b:∀ (us:List Value),us.length=nb->∃ kk,bindArgs (W.fnOf x x (Y9 st) (Y2 st) (Yi st) (.ref T) kV dc pm an cd ct) ⟨us,[]⟩=seqItems? (.ref T) >>= kk/\kk (some items)=pure (ps.zip (us++items.toList))) :
  ∀ P w base,(Gx.mk P w K mg base).jw x x st ps aU:=fun P w base =>
 ⟨f,_,T,items.toList,⟨⟨oc,od,kV,dc,pm,an,cd,ct,sl,rfl,l,c⟩,k⟩,v,fun s' us hK hl=>by
  have hn:us.length=nb:=by rw [List.length_append] at hl;omega
  obtain ⟨kk,h1,h2⟩:=b us hn;exact W.binds_K hK rfl t s h1 h2,W.mg_of X G a⟩
section
variable {src:List (Option Nat)} {te:TE} {σ:St} {H:Hp} {Q:VK}
theorem Yd9 {K:W.Frag} {tl:TE} {xs:List V} {b:Addr} (I:Addr->Nat->List V->Hp->Prop) (ha:∀ R:V->Hp->Prop,R (.ref b) H->tl σ H R) (hS:ao K H b xs) (hlen:xs.length<=100000)
  (i0:∀ D,H D=none->I D 0 [] (upd H D (.lst []))) (dl:∀ D i zs H',H D=none->I D i zs H'->zs.length=i/\H' D=some (.lst zs)/\ao K H' b xs)
  (step:∀ D (i:Nat) x zs H',H D=none->xs[i]?=some x->I D i zs H'->∀ R:VK,(∀ y aK,aK D=some (.lst zs)->I D (i+1) (zs++[y]) (upd aK D (.lst (zs++[y])))->R y aK)->te (some x::YI src σ) H' R)
  (fin:∀ D zs H',H D=none->I D xs.length zs H'->Q (.ref D) H'):d7 (none::src) (W0 K tl) (YG 0) Wa te σ H Q:=by
 refine ha _ ⟨b,rfl,⟨xs,hS⟩,fun D hD=>?_⟩;have h6:100000<sizeLine:=by decide
 refine Vy Ws (fun i zs σ' H'=>(∃ o,σ'=o::YI src σ)/\i<=xs.length/\I D i zs H') ⟨⟨none,rfl⟩,Nat.zero_le _,i0 D hD⟩ (fun i zs σ' H' q=>⟨(dl _ _ _ _ hD q.2.2).2.2,(dl _ _ _ _ hD q.2.2).2.1⟩) (X3 0) ?_ ?_
 ·rintro i zs σ' H' x hx ⟨⟨o,rfl⟩,_,hI⟩
  have hi:i<xs.length:=(List.getElem?_eq_some_iff.mp hx).1;have hl:=(dl _ _ _ _ hD hI).1
  show te (some x::YI src σ) H' _
  exact step D i x zs H' hD hx hI _ fun y aK hd hI'=>⟨hd,by omega,⟨_,rfl⟩,hi,hI'⟩
 ·rintro zs σ' H' ⟨_,_,hI⟩
  exact fin D zs H' hD hI
end
mutual
inductive RK (h:Heap):Value->PyData->Prop
 | int (i:Int) (t:Tok):RK h (.int i t) (.int i)
 | str (x:Str) (t:Tok) (hx:PyData.strOk x=true):RK h (.str x t) (.str x)
 | tup {a:Addr} {o:Obj} {vs:Array Value} {n:Nat} {ds:List PyData}:h.get? a=some o->o.cls = .type "tuple"->o.data = .seq vs n->cR h vs.toList ds->RK h (.ref a) (.tuple ds)
inductive cR (h:Heap):List Value->List PyData->Prop
 | nil:cR h [] []
 | cons {v:Value} {d:PyData} {vs:List Value} {ds:List PyData}:RK h v d->cR h vs ds->cR h (v::vs) (d::ds)
end
mutual
inductive KO:PyData->Prop
 | int (i:Int):KO (.int i)
 | str (x:Str):KO (.str x)
 | tup {ds:List PyData}:eX ds->KO (.tuple ds)
inductive eX:List PyData->Prop
 | nil:eX []
 | cons {d:PyData} {ds:List PyData}:KO d->eX ds->eX (d::ds)
end
mutual
theorem RK.ko {h:Heap}:∀ {v:Value} {d:PyData},RK h v d->KO d
 | _,_,.int i t => .int i
 | _,_,.str x t _ => .str x
 | _,_,.tup _ _ _ hs => .tup hs.ko
theorem cR.ko {h:Heap}:∀ {vs:List Value} {ds:List PyData},cR h vs ds->eX ds
 | _,_,.nil => .nil
 | _,_,.cons a b => .cons a.ko b.ko
end
mutual
theorem RK.reads {h:Heap}:∀ {v:Value} {d:PyData},RK h v d->(∃ as,Reads h v d as)/\d.canLay0=true
 | _,_,.int i t=>⟨⟨_,.int i t⟩,rfl⟩
 | _,_,.str x t hx=>⟨⟨_,.str x t⟩,by simpa [PyData.canLay0] using hx⟩
 | _,_,.tup h1 h2 h3 hs=>by
  obtain ⟨⟨as,r⟩,l⟩:=hs.reads;exact ⟨⟨_,.tuple h1 h2 h3 r⟩,by rw [PyData.canLay0];exact l⟩
theorem cR.reads {h:Heap}:∀ {vs:List Value} {ds:List PyData},cR h vs ds->(∃ as,ReadsAll h vs ds as)/\PyData.canLayAll0 ds=true
 | _,_,.nil=>⟨⟨_,.nil⟩,rfl⟩
 | _,_,.cons a b=>by
  obtain ⟨⟨as,r⟩,l⟩:=a.reads;obtain ⟨⟨bs,r'⟩,l'⟩:=b.reads;exact ⟨⟨_,.cons r r'⟩,by rw [PyData.canLayAll0,l,l'];rfl⟩
end
theorem RK.of {h:Heap} {d:PyData} {v:Value} {as:List Addr} (k:KO d) (r:Reads h v d as) (l:d.canLay0=true):RK h v d:=by
 induction k using KO.rec (motive_2:=fun ds _=>∀ {vs:List Value} {as:List Addr},ReadsAll h vs ds as->PyData.canLayAll0 ds=true->cR h vs ds) generalizing v as with
 | int i=>cases r with | int _ t=>exact .int i t
 | str x=>cases r with | str _ t=>exact .str x t (by simpa [PyData.canLay0] using l)
 | tup _ ih=>cases r with | tuple h1 h2 h3 hs=>exact .tup h1 h2 h3 (ih hs (by rw [PyData.canLay0] at l;exact l))
 | nil=>rename_i r l;cases r;exact .nil
 | cons _ _ ih ihs =>
  rename_i r l;rw [PyData.canLayAll0,Bool.and_eq_true] at l
  cases r with | cons r rs=>exact .cons (ih r l.1) (ihs rs l.2)
theorem RK.inj {h:Heap} {d:PyData} {v:Value} {e:PyData} (a:RK h v d) (b:RK h v e):d=e:=by
 obtain ⟨⟨_,r⟩,l⟩:=a.reads;obtain ⟨⟨_,r'⟩,_⟩:=b.reads;exact (r.unique _ _ r').1
mutual
theorem RK.keeps {h h':Heap} {x:Addr} {o:Obj} {es:Array DictEntry} {ep:Nat} (ho:h.get? x=some o) (hd:o.data = .dict es ep) (hs:Heap.SameBut x h h'):∀ {v:Value} {d:PyData},RK h v d->RK h' v d
 | _,_,.int i t => .int i t
 | _,_,.str y t hy => .str y t hy
 | _,_,.tup (a:=a) h1 h2 h3 ks=>by
  have hne:a≠x:=by
   rintro rfl;rw [ho] at h1
   cases h1
   rw [hd] at h3
   exact nomatch h3
  exact .tup ((hs.2 a hne).trans h1) h2 h3 (cR.keeps ho hd hs ks)
theorem cR.keeps {h h':Heap} {x:Addr} {o:Obj} {es:Array DictEntry} {ep:Nat} (ho:h.get? x=some o) (hd:o.data = .dict es ep) (hs:Heap.SameBut x h h'):∀ {vs:List Value} {ds:List PyData},cR h vs ds->cR h' vs ds
 | _,_,.nil => .nil
 | _,_,.cons a b => .cons (RK.keeps ho hd hs a) (cR.keeps ho hd hs b)
end
noncomputable instance afY:DecidableEq PyData:=fun a b=>Classical.propDecidable (a=b)
mutual
theorem KO.eqv:∀ {d e:PyData},KO d->KO e->d.eqv e=decide (d=e)
 | .int a,.int b,_,_=>by
  by_cases h:a=b
  ·subst h;simp [PyData.eqv]
  ·simp [PyData.eqv,h]
 | .str a,.str b,_,_=>by
  by_cases h:a=b
  ·subst h;simp [PyData.eqv]
  ·simp [PyData.eqv,h]
 | .int a,.str b,_,_=>by simp [PyData.eqv]
 | .str a,.int b,_,_=>by simp [PyData.eqv]
 | .int a,.tuple b,_,_=>by simp [PyData.eqv]
 | .str a,.tuple b,_,_=>by simp [PyData.eqv]
 | .tuple a,.int b,_,_=>by simp [PyData.eqv]
 | .tuple a,.str b,_,_=>by simp [PyData.eqv]
 | .tuple a,.tuple b,.tup x,.tup y=>by
  rw [PyData.eqv,eX.eqv x y];by_cases h:a=b
  ·subst h;simp
  ·simp [h]
theorem eX.eqv:∀ {ds es:List PyData},eX ds->eX es->PyData.eqvAll ds es=decide (ds=es)
 | [],[],_,_=>by simp [PyData.eqvAll]
 | [],_::_,_,_=>by simp [PyData.eqvAll]
 | _::_,[],_,_=>by simp [PyData.eqvAll]
 | d::ds,e::es,.cons x xs,.cons y ys=>by
  rw [PyData.eqvAll,KO.eqv x y,eX.eqv xs ys];by_cases h:d=e
  ·subst h
   by_cases h2:ds=es
   ·subst h2;simp
   ·simp [h2]
  ·simp [h]
end
section
variable {P:Program} {w:World}
mutual
def kh (P:Program) (w:World):PyData->Int
 | .int i=>(XZ P w).hash (.inl i)
 | .str x=>(XZ P w).hash (.inr x)
 | .tuple ds=>reduceHash (Builtin.Tuple.tupleHashOf (dG P w ds))
 | _=>0
def dG (P:Program) (w:World):List PyData->List Int
 | []=>[]
 | d::ds=>kh P w d::dG P w ds
end
mutual
def kdr:PyData->Nat
 | .int _=>1
 | .str _=>1
 | .tuple ds=>WA ds+1
 | _=>0
def WA:List PyData->Nat
 | []=>0
 | d::ds=>kdr d+WA ds
end
theorem Ygq (a b:List PyData):dG P w (a++b)=dG P w a++dG P w b:=by
 induction a with
 | nil=>simp [dG]
 | cons x a ih=>simp [dG,ih]
theorem Yfa (a b:List PyData):WA (a++b)=WA a+WA b:=by
 induction a with
 | nil=>simp [WA]
 | cons x a ih=>simp [WA,ih,Nat.add_assoc]
theorem Yfb (a b:List PyData):PyData.depthAll (a++b)=max (PyData.depthAll a) (PyData.depthAll b):=by
 induction a with
 | nil=>simp [PyData.depthAll]
 | cons x a ih=>simp [PyData.depthAll,ih,Nat.max_assoc]
theorem Qs {s:Shared} {a:Addr} {o:Obj} (h1:s.heap.get? a=some o) (h2:o.cls = .type "tuple"):s.TypeIs (.ref a) "tuple":=⟨o,h1,h2⟩
theorem HB:∀ (n:Nat) {A:Around} {E:Value->Shared->Prop} {s:Shared} {v:Value} {d:PyData} {Q:Int->Shared->Prop},RK s.heap v d->d.depth<=n->A.units+n<cLine->Q (kh P w d) { s with toks:=s.toks+kdr d }->wpAny (model P w) A (pyHash v) Q E s
 | n,A,E,s,_,_,Q,.int i t,_,_,h=>(XZ P w).pyHash (Gz (k := .inl i) (show YF (.int i) (.int i t) from ⟨t,rfl⟩)) (by simpa [kh,kdr] using h)
 | n,A,E,s,_,_,Q,.str x t _,_,_,h=>(XZ P w).pyHash (Gz (k := .inr x) (show YF (.str x) (.str x t) from ⟨t,rfl⟩)) (by simpa [kh,kdr] using h)
 | 0,A,E,s,_,_,Q,.tup _ _ _ _,hd,_,h=>by simp [PyData.depth] at hd
 | n+1,A,E,s,_,_,Q,.tup (a:=a) (ds:=ds) h1 h2 h3 ks,hd,hu,h=>by
  have hT:=Qs h1 h2;unfold pyHash
  first | unfold pyHashByItsType | skip
  first | refine wpAny_bind (wpAny_cRoomFor_or (.inr (by omega)) ?_) | skip
  refine wpAny_bind (wpAny_specialOf hT F.slot_tuple_hash.lookup ?_)
  show wpAny _ _ (if (some (Value.builtin "tuple.__hash__")==some Value.none)=true then _ else _) Q E s
  rw [if_neg (by rw [beq_builtin_none];exact Bool.false_ne_true)];refine wpAny_bind (wpAny_specialOf hT F.slot_tuple_hash.lookup ?_);refine wpAny_bind (wpAny_callSpecialIfBoundUnlessNone?_slot hT F.slot_tuple_hash (wpAny_call_entry F.slot_tuple_hash hT F.entry_tuple_hash ?_ (F.args_tuple_hash_1 _)))
  show wpAny _ _ (Builtin.Tuple.tupleItemsOf (.ref a) >>= _) _ _ s
  refine wpAny_bind (wpAny_tupleItemsOf h1 h3 ?_);refine wpAny_bind ?_;rw [<- Array.forIn_toList];have hdd:PyData.depthAll ds<=n:=by simp only [PyData.depth] at hd;omega
  refine wpAny_forIn_list _ (fun Y0 (b:Array Int) s'=>∃ done left,ds=done++left/\cR s.heap Y0 left/\b.toList=dG P w done/\s'={ s with toks:=s.toks+WA done }) _ ?_ ?_ _ _ ⟨[],ds,rfl,ks,by simp [dG],by simp [WA]⟩
  ·rintro x Y0 b s' ⟨done,left,e,hl,hb,rfl⟩
   cases hl with
   | @cons _ d _ ds' hk hl' =>
    have hdk:d.depth<=n:=by
     rw [e,Yfb] at hdd
     simp only [PyData.depthAll] at hdd;omega
    have hin:A.in1.units+n<cLine:=by
     have:A.in1.units=A.units+1:=rfl;omega
    refine wpAny_bind (HB n (s:={ s with toks:=s.toks+WA done }) hk hdk hin ?_);have fin:∃ nW left',ds=nW++left'/\cR s.heap Y0 left'/\(b.push (kh P w d)).toList=dG P w nW/\({ s with toks:=s.toks+WA done+kdr d }:Shared)={ s with toks:=s.toks+WA nW } :=
     ⟨done++[d],ds',by rw [e];simp,hl',by rw [Ygq,Array.toList_push,hb];simp [dG],by rw [Yfa];simp [WA,Nat.add_assoc]⟩
    first
     | exact wpAny_pure fin
     | exact wpAny_bind (wpAny_pure (wpAny_pure fin))
  ·rintro b s' ⟨done,left,e,hl,hb,rfl⟩
   cases hl
   rw [List.append_nil] at e
   subst e
   show wpAny _ _ (retInt (Builtin.Tuple.tupleHashOf b.toList)) _ _ _
   rw [hb];refine wpAny_ret_mkInt ?_;simp only [kh,kdr] at h;unfold reduceHash at h
   show wpAny _ _ (if (decide (-(2:Int)^63<=Builtin.Tuple.tupleHashOf (dG P w ds))&&decide (Builtin.Tuple.tupleHashOf (dG P w ds)<2^63))=true then _ else _) Q E _
   by_cases hr:(decide (-(2:Int)^63<=Builtin.Tuple.tupleHashOf (dG P w ds))&&decide (Builtin.Tuple.tupleHashOf (dG P w ds)<2^63))=true
   ·rw [if_pos hr]
    rw [if_pos hr] at h
    exact wpAny_pure (by simpa [Nat.add_assoc] using h)
   ·rw [if_neg hr]
    rw [if_neg hr] at h
    exact wpAny_bind (wpAny_rule (wpAny_pure (by simpa [Nat.add_assoc] using h)))
theorem HD:∀ (n:Nat) {A:Around} {E:Value->Shared->Prop} {s:Shared} {v:Value} {d:PyData} {Q:Bool->Shared->Prop},RK s.heap v d->d.depth<=n->Q true s->wpAny (model P w) A (eqIsQuiet n v) Q E s
 | n,A,E,s,_,_,Q,.int i t,_,h=>by rw [eqIsQuiet_byValue _ (by rfl)];exact wpAny_pure h
 | n,A,E,s,_,_,Q,.str x t _,_,h=>by rw [eqIsQuiet_byValue _ (by rfl)];exact wpAny_pure h
 | 0,A,E,s,_,_,Q,.tup _ _ _ _,hd,h=>by simp [PyData.depth] at hd
 | n+1,A,E,s,_,_,Q,.tup (a:=a) (ds:=ds) h1 h2 h3 ks,hd,h=>by
  have hT:=Qs h1 h2;have hdd:PyData.depthAll ds<=n:=by simp only [PyData.depth] at hd;omega
  unfold eqIsQuiet;refine wpAny_bind (wpAny_specialOf hT F.slot_tuple_eq.lookup ?_);refine wpAny_bind (wpAny_isInstance hT isSubtype_tuple_tuple ?_);simp only [Bool.not_true,Bool.false_eq_true,if_false];refine wpAny_bind (wpAny_seqItems h1 h3 ?_);refine wpAny_bind ?_;rw [Option.getD_some,<- Array.forIn_toList];refine wpAny_forIn_list _ (fun Y0 r s'=>r.1=none/\s'=s/\∃ left,cR s.heap Y0 left/\PyData.depthAll left<=n) _ ?_ ?_ _ _ ⟨rfl,rfl,ds,ks,hdd⟩
  ·rintro v Y0 r s' ⟨hr,rfl,left,hl,hdl⟩
   cases hl with
   | @cons _ d _ ds' hk hl' =>
    simp only [PyData.depthAll] at hdl;refine wpAny_bind (HD n hk (by omega) ?_);simp only [Bool.not_true,Bool.false_eq_true,if_false];exact wpAny_pure ⟨rfl,rfl,ds',hl',by omega⟩
  ·rintro ⟨r1,r2⟩ s' ⟨hr,rfl,_⟩
   simp only at hr;subst hr;exact wpAny_pure h
noncomputable def eN (P:Program) (w:World):HeapKind P w PyData where
 is:=fun h d a=>RK h (.ref a) d/\d.depth<=8
 hash:=kh P w
 draws:=kdr
 room:=fun A=>A.units+8<cLine
 inj:=fun hx hy=>hx.1.inj hy.1
 keeps:=fun x ho hd hs=>⟨x.1.keeps ho hd hs,x.2⟩
 pyHash:=fun hu hk h=>HB 8 hk.1 hk.2 hu h
 eqBool:=fun {A E s x y a b Q} hu hx hy h=>by
  obtain ⟨⟨as,r1⟩,l1⟩:=hx.1.reads;obtain ⟨⟨bs,r2⟩,l2⟩:=hy.1.reads;have hm:min x.depth y.depth<=8:=Nat.le_trans (Nat.min_le_left _ _) hx.2;exact SeqAt.eqAt_reads x y A s _ _ _ _ r1 r2 l1 l2 (by omega) P w E Q (by rw [KO.eqv hx.1.ko hy.1.ko];exact h)
 quiet:=fun hk h=>HD 8 hk.1 hk.2 h
end
abbrev Dx:=List (PyData×Addr×Addr)
def XC (x:PyData×Addr×Addr):PyData×Addr×Value:=(x.1,x.2.1,.ref x.2.2)
noncomputable def bO (P:Program) (w:World) (a:Addr) (xs:Dx):HO := .ext fun h=>(a==sysModules)=false/\∃ o es ep,h.get? a=some o/\o.ExactDict/\o.data = .dict es ep/\es.toList=(xs.map XC).map (entryOfKey (eN P w))
theorem xK {P:Program} {w:World} {H:Hp} {h:Heap} {a:Addr} {xs:Dx} (hd:(a==sysModules)=false) (e:∃ o es ep,h.get? a=some o/\o.ExactDict/\o.data = .dict es ep/\es.toList=(xs.map XC).map (entryOfKey (eN P w))):Y1 P w H h a (bO P w a xs):=by
 refine ⟨⟨hd,e⟩,?_,fun h1 h2 p k=>?_⟩
 ·obtain ⟨o,es,ep,h1,_⟩:=e
  exact ⟨o,h1⟩
 ·obtain ⟨q,o,es,ep,g1,g2⟩:=p
  exact ⟨q,o,es,ep,k _ g1,g2⟩
structure DK (K:W.Frag) (H:Hp) (b:Addr) (d:PyData):Prop where
 den:Den K H (.ref b) d
 ko:KO d
 dp:d.depth<=8
theorem DK.keep {K:W.Frag} {H H':Hp} {b:Addr} {d:PyData} (h:DK K H b d) (s:Yj H H'):DK K H' b d:=⟨h.den.keep s,h.ko,h.dp⟩
noncomputable def aJ (xs:Dx) (d:PyData):Option Addr:=(xs.find? fun x=>decide (x.1=d)).map (·.2.2)
structure aZ (P:Program) (w:World) (K:W.Frag) (H:Hp) (a:Addr) (xs:Dx):Prop where
 at_:H a=some (bO P w a xs)
 nd:(xs.map (·.1)).Nodup
 len:xs.length<=1000
 keys:∀ x∈xs,DK K H x.2.1 x.1
section
variable {X:Cx} {pins:List (Addr×Obj)} {σ:St} {H:Hp} {s:Shared} {a b:Addr} {d:PyData} {xs:Dx} {u r:Value} {A:Around} {E:Value->Shared->Prop}
theorem Qt (I:Inv X pins σ H s) (h:DK X.K H b d):(eN X.prog X.w).is s.heap d b:=by
 obtain ⟨as,r⟩:=h.den.reads I (show YF (.ref b) (.ref b) from rfl);exact ⟨RK.of h.ko r h.den.lay,h.dp⟩
theorem Qu (I:Inv X pins σ H s) (h:aZ X.prog X.w X.K H a xs):(a==sysModules)=false/\s.heap.DictOfH (eN X.prog X.w) a (xs.map XC):=by
 obtain ⟨⟨hd,o,es,ep,h1,h2,h3,h4⟩,_⟩:=(show Y1 X.prog X.w H s.heap a (bO X.prog X.w a xs) from I.hok a _ h.at_);refine ⟨hd,o,es,ep,h1,h2,h3,h4,fun x hx=>?_,?_⟩
 ·obtain ⟨y,hy,rfl⟩:=List.mem_map.mp hx
  exact Qt I (h.keys y hy)
 ·have:(xs.map XC).map (·.1)=xs.map (·.1):=by rw [List.map_map];rfl
  rw [this];exact h.nd
theorem WJ (xs:Dx) (d:PyData):(atKey (xs.map XC) d).map (·.2)=(aJ xs d).map Value.ref:=by
 induction xs with
 | nil=>rfl
 | cons x xs ih =>
  by_cases h:x.1=d
  ·simp [atKey,aJ,List.find?_cons,XC,h]
  ·simp only [atKey,aJ,List.map_cons,List.find?_cons,XC,h] at ih ⊢
   simpa using ih
theorem YcY {p:Addr} {Q:Value->Shared->Prop} (hu:A.units+9<cLine) (I:Inv X pins σ H s) (g:aZ X.prog X.w X.K H a xs) (k:DK X.K H b d) (l:aJ xs d=some p) (h:∀ s',Inv X pins σ H s'->Q (.ref p) s') :
  wpAny (model X.prog X.w) A (getItem (.ref a) (.ref b)) Q E s:=by
 obtain ⟨hd,dd⟩:=Qu I g;have e:=WJ xs d;rw [l] at e
 obtain ⟨q,hq,hq2⟩:=Option.map_eq_some_iff.mp e;refine wpAny_getItem_heap (show A.in1.units+8<cLine from by have:A.in1.units=A.units+1:=rfl;omega) (Qt I k) dd hq ?_;rw [hq2];exact h _ (I.tok _)
theorem Yfc {Q:Value->Shared->Prop} (hu:A.units+9<cLine) (I:Inv X pins σ H s) (g:aZ X.prog X.w X.K H a xs) (k:DK X.K H b d) (h:∀ s',Inv X pins σ H s'->Q (.bool (!(aJ xs d).isSome)) s') :
  wpAny (model X.prog X.w) A (compareOp .NotIn (.ref b) (.ref a)) Q E s:=by
 obtain ⟨hd,dd⟩:=Qu I g;refine wpAny_notIn_heap (show A.in1.units+8<cLine from by have:A.in1.units=A.units+1:=rfl;omega) (Qt I k) hd dd ?_;have e:=congrArg Option.isSome (WJ xs d);rw [Option.isSome_map,Option.isSome_map] at e
 rw [e];exact h _ (I.tok _)
theorem Qv {p:Addr} {Q:Unit->Shared->Prop} (hu:A.units+9<cLine) (I:Inv X pins σ H s) (g:aZ X.prog X.w X.K H a xs) (k:DK X.K H b d) (l:aJ xs d=none) (hl:xs.length<1000) (h:∀ s',Inv X pins σ (upd H a (bO X.prog X.w a (xs++[(d,b,p)]))) s'->Q () s') :
  wpAny (model X.prog X.w) A (setItem (.ref a) (.ref b) (.ref p)) Q E s:=by
 obtain ⟨hd,dd⟩:=Qu I g;have hz:(xs.map XC).length<=sizeLine:=by rw [List.length_map];exact Nat.le_trans (Nat.le_of_lt hl) (by decide)
 refine wpAny_setItem_heap (hsz:=hz) (show A.in1.units+8<cLine from by have:A.in1.units=A.units+1:=rfl;omega) (Qt I k) dd fun h' pN hs=>h _ ?_
 have e:atKey (xs.map XC) d=none:=by
  have e:=WJ xs d;rw [l] at e
  cases q:atKey (xs.map XC) d with
  | none=>rfl
  | some z=>rw [q] at e;cases e
 rw [storedH_new e] at pN
 obtain ⟨q,es,ep,hq,h2,h3,h4,_,h5⟩:=pN;refine GC I (by rw [g.at_];exact True.intro) hs ⟨q,hq⟩ (xK hd ⟨q,es,ep,hq,h2,h3,?_⟩);rw [h4,List.map_append (f:=XC)];rfl
end
def Qw (P:Program) (w:World) (K:W.Frag) (td ty:TE):TE:=fun σ H Q=>td σ H fun x H1=>ty σ H1 fun y H2=>∃ a b xs d p,x = .ref a/\y = .ref b/\aZ P w K H2 a xs/\DK K H2 b d/\aJ xs d=some p/\Q (.ref p) H2
def HF (P:Program) (w:World) (K:W.Frag) (td ty tv:TE):TS:=fun D σ H=>tv σ H fun v H1=>td σ H1 fun x H2=>ty σ H2 fun y H3=>∃ a b xs d p,v = .ref p/\x = .ref a/\y = .ref b/\aZ P w K H3 a xs/\DK K H3 b d/\aJ xs d=none/\xs.length<1000/\D.nx σ (upd H3 a (bO P w a (xs++[(d,b,p)])))
def Yg9 (P:Program) (w:World):TE:=fun _ H Q=>∀ p,H p=none->Q (.ref p) (upd H p (bO P w p []))
section
variable {X:Cx} {o i e value:Expr} {pos pos' tpos:Pos} {td ty tv:TE} {k:Nat}
theorem Uv {A:Around} {k:Nat} (hr:aQ k A):A.units+9<cLine:=Nat.lt_of_le_of_lt (Nat.add_le_add_left (by decide:9<=64) _) hr.units
theorem Yfd (hr:aQ k X.A) (ho:PE X o td) (hi:PE X i ty) (hs:wU i):PE X (.Subscript o i pos) (Qw X.prog X.w X.K td ty):=by
 intro pins s σ H Q I h;refine SJ F.slot_dict_getitem.lookup hs (aG (ho pins s σ H _ I h) fun u s1 ⟨x,H1,I1,rx,q1⟩=>aG (hi pins s1 σ H1 _ I1 q1) fun iv s2 ⟨y,H2,I2,ry,a,b,xs,d,p,ex,ey,g,kk,l,q2⟩=>?_);subst ex ey;obtain rfl:u=Value.ref a:=rx;obtain rfl:iv=Value.ref b:=ry;exact ⟨(Qu I2 g).2.typeIs,YcY (Uv hr) I2 g kk l fun s3 I3=>⟨.ref p,H2,I3,rfl,q2⟩⟩
theorem Yfe (hr:aQ k X.A) (ho:PE X o td) (hi:PE X i ty) (hv:PE X value tv) (hs:swapsWith value (some (.Subscript o i pos')) pos.line X.env=pure false) :
  PS X (.Assign [.Subscript o i pos'] value pos) (HF X.prog X.w X.K td ty tv):=by
 intro pins s σ H D I h;refine wpAny_Assign_Subscript (aG (hv pins s σ H _ I h) fun r s1 ⟨v,H1,I1,rv,q1⟩=>aG (ho pins s1 σ H1 _ I1 q1) fun u s2 ⟨x,H2,I2,rx,q2⟩=>aG (hi pins s2 σ H2 _ I2 q2) fun iv s3 ⟨y,H3,I3,ry,a,b,xs,d,p,ev,ex,ey,g,kk,l,hl,q3⟩=>?_) hs;subst ex ey ev;obtain rfl:u=Value.ref a:=rx;obtain rfl:iv=Value.ref b:=ry;obtain rfl:r=Value.ref p:=rv;exact Qv (Uv hr) I3 g kk l hl fun s4 I4=>⟨σ,_,I4,q3⟩
theorem Yff:PE X (.Dict [] [] pos) (Yg9 X.prog X.w):=fun pins s σ H Q I h =>
 wpAny_Dict_empty ⟨.ref s.heap.objs.size,_,I.laid (a:=s.heap.objs.size) (o:=bO X.prog X.w s.heap.objs.size []) (t':=s.toks) (fun _ _ q=>Heap.get?_push_of_some _ q) (Nat.le_refl _) (xK (beq_eq_false_iff_ne.mpr (Ne.symm (Nat.ne_of_lt I.big))) ⟨_,#[],0,Heap.get?_push_size _ rfl,⟨rfl,rfl,rfl⟩,rfl,rfl⟩),rfl,h _ (I.hok.fresh (Nat.le_refl _))⟩
end
def XO (H H':Hp):Prop:=∀ b xs,Rd H b (.tup xs)->Rd H' b (.tup xs)
theorem XO.sq {K:W.Frag} {H H':Hp} (t:XO H H') {b:Addr} {xs:List V} (h:au K H b xs):au K H' b xs:=by
 rcases h with h | h
 ·exact .inl (t _ _ h)
 ·exact .inr h
theorem XO.trans {H H1 H2:Hp} (a:XO H H1) (b:XO H1 H2):XO H H2:=fun c xs e=>b c xs (a c xs e)
theorem Wd {H H':Hp} (s:Yj H H'):XO H H':=fun b xs h=>by
 rcases h with h | ⟨o,h⟩
 ·exact .inl (s _ _ h)
 ·exact .inr ⟨o,s _ _ h⟩
theorem Wb {H H':Hp} {P:Addr} {u:HO} (hk:∀ b o,b≠P->H b=some o->H' b=some o) (hP:H P=some u) (h1:∀ xs,u ≠ .tup xs) (h2:∀ o v,u ≠ .cQ o v):XO H H':=fun b xs h=>by
 rcases h with h | ⟨o,h⟩
 ·exact .inl (hk _ _ (Xh h hP (fun z=>h1 _ z.symm)) h)
 ·exact .inr ⟨o,hk _ _ (Xh h hP (fun z=>h2 _ _ z.symm)) h⟩
theorem HJ {K:W.Frag} {H H':Hp} (t:XO H H') {d:PyData} {v:V} (k:KO d) (r:Den K H v d):Den K H' v d:=by
 induction k using KO.rec (motive_2:=fun ds _=>∀ {vs:List V},aX K H vs ds->aX K H' vs ds) generalizing v with
 | int i=>cases r with | int _=>exact .int i
 | str x=>cases r with | str _ h=>exact .str x h
 | tup _ ih=>cases r with | tup h hs=>exact .tup (t.sq h) (ih hs)
 | nil=>rename_i r;cases r;exact .nil
 | cons _ _ ih ihs=>rename_i r;cases r with | cons a b=>exact .cons (ih a) (ihs b)
theorem DK.cu {K:W.Frag} {H H':Hp} {b:Addr} {d:PyData} (h:DK K H b d) (t:XO H H'):DK K H' b d:=⟨HJ t h.ko h.den,h.ko,h.dp⟩
theorem aZ.keep {P:Program} {w:World} {K:W.Frag} {H H':Hp} {a:Addr} {xs:Dx} (h:aZ P w K H a xs) (t:XO H H') (e:H' a=some (bO P w a xs)):aZ P w K H' a xs:=⟨e,h.nd,h.len,fun x hx=>(h.keys x hx).cu t⟩
theorem YcZ {xs:Dx} {d:PyData} (h:aJ xs d=none):d∉xs.map (·.1):=by
 intro hm;obtain ⟨x,hx,rfl⟩:=List.mem_map.mp hm;unfold aJ at h;rw [Option.map_eq_none_iff,List.find?_eq_none] at h
 exact h x hx (by simp)
theorem W3 (xs:Dx) (d e:PyData) (b p:Addr) (h:aJ xs d=none):aJ (xs++[(d,b,p)]) e=if e=d then some p else aJ xs e:=by
 unfold aJ;rw [List.find?_append];by_cases c:e=d
 ·subst c
  have h':xs.find? (fun x=>decide (x.1=e))=none:=by
   unfold aJ at h
   rwa [Option.map_eq_none_iff] at h
  rw [h',if_pos rfl];simp
 ·rw [if_neg c]
  have:([(d,b,p)]:Dx).find? (fun x=>decide (x.1=e))=none:=by simp [Ne.symm c]
  rw [this];simp
theorem aZ.put {P:Program} {w:World} {K:W.Frag} {H:Hp} {a b p:Addr} {d:PyData} {xs:Dx} (h:aZ P w K H a xs) (k:DK K H b d) (l:aJ xs d=none) (hl:xs.length<1000):aZ P w K (upd H a (bO P w a (xs++[(d,b,p)]))) a (xs++[(d,b,p)]):=by
 have t:XO H (upd H a (bO P w a (xs++[(d,b,p)]))):=Wb (fun b o hb e=>by rw [Yg hb];exact e) h.at_ (by intro xs z;cases z) (by intro o v z;cases z);refine ⟨Yd,?_,by rw [List.length_append,List.length_singleton];omega,fun x hx=>?_⟩
 ·rw [List.map_append]
  refine List.nodup_append.mpr ⟨h.nd,by simp,fun x hx y hy e=>?_⟩;subst e;have:x=d:=by simpa using hy
  subst this;exact YcZ l hx
 ·rcases List.mem_append.mp hx with hx | hx
  ·exact (h.keys x hx).cu t
  ·have:x=(d,b,p):=by simpa using hx
   subst this;exact k.cu t
theorem Yeb {P:Program} {w:World} {K:W.Frag} {H:Hp} {a:Addr} (h:H a=some (bO P w a [])):aZ P w K H a []:=⟨h,by simp,by simp,fun x hx=>by cases hx⟩
section
variable {X:Cx} {k:Nat}
theorem Yc0 (hr:aQ k X.A):bw X (compareOp .NotIn) (fun y x H Q=>∃ a b xs d,x = .ref a/\y = .ref b/\aZ X.prog X.w X.K H a xs/\DK X.K H b d/\Q (.bl (!(aJ xs d).isSome)) H):=by
 intro pins s σ H y x u v Q I ry rx h;obtain ⟨a,b,xs,d,rfl,rfl,g,kk,q⟩:=h
 cases (show u=Value.ref b from ry)
 cases (show v=Value.ref a from rx)
 exact Yfc (Uv hr) I g kk fun s' I'=>⟨.bl (!(aJ xs d).isSome),H,I',rfl,q⟩
end
end L2
namespace L2
open PySem PySem.Spec PyProof.Rows
theorem Yha {X:Cx} {g:Gx} {j k:Nat} {x:Str} {C:Addr} {ps:List Str} {sp:Sp} {p pos:Pos} (F:g.Ma j x C ps sp) (hr:aQ k X.A) (hj:j+1<=k) (hX:X.gx=g) (hg:Gl X x) (hdb:(x==("__debug__":Str))=false) :
  PE X (.Call (.Name x p) [] [] pos) (UK C sp [] E0 XF):=by
 subst hX;obtain ⟨f,fd,F,b,M,hm⟩:=F;exact RM M F (hr.mono hj) hg hm b .nil Vw hdb
end L2
namespace PySem.W
open PySem PyProof.Rows
abbrev excFs (a0:Value):Array Value:=#[a0,.none,.none,.none,.bool false,.none]
end PySem.W
namespace L2
open PySem PySem.Spec PyProof.Rows
open PySem.W (excFs)
def del (H:Hp) (a:Addr):Hp:=fun b=>if b=a then none else H b
end L2
namespace HT
open PySem PySem.Spec PyProof.Rows
variable {prog:Program} {w:World} {A:Around} {E:Value->Shared->Prop} {s:Shared}
end HT
namespace L2
open PySem PySem.Spec PyProof.Rows
def Oe (z:Str):Str:=⟨z.cps.toList.reverse.toArray⟩
end L2
namespace L2
open PySem
def jy:PyData->Bool
 | .bool _=>true
 | _=>false
noncomputable def sm (a b:PyData):Bool:=@decide (a=b) (Classical.propDecidable _)
inductive Tm where
 | num (i:Int) | here | part (t:Tm) (k:Int) | count (t:Tm) | sum (t:Tm) | not (t:Tm) | turned (t:Tm)
 | same (a b:Tm) | both (a b:Tm) | when (a b c:Tm) | each (a b:Tm) | joined (a b:Tm) | plus (a b:Tm) | times (a b:Tm) | less (a b:Tm)
abbrev uO:=Except Str PyData
def QU:PyData->Option (List PyData)
 | .list xs=>some xs
 | .tuple xs=>some xs
 | _=>none
def HN:List PyData->Option Int
 | []=>some 0
 | .int i::r=>(HN r).map (i+·)
 | _::_=>none
def take (mk:Str) (s:uO) (f:PyData->Option α):Except Str α:=match s with
 | .error m => .error m
 | .ok d=>match f d with
  | some a => .ok a
  | none => .error mk
def UN:PyData->Option Int
 | .int i=>some i
 | _=>none
def Uw:PyData->Option Bool
 | .bool b=>some b
 | _=>none
def lenOf:PyData->Option Nat
 | .list xs=>some xs.length
 | .tuple xs=>some xs.length
 | .str x=>some x.length
 | _=>none
def Yhb:PyData->Option PyData
 | .list xs=>some (.list xs.reverse)
 | .tuple xs=>some (.tuple xs.reverse)
 | .str x=>some (.str (Oe x))
 | _=>none
def HS (mk:Str) (f:PyData->uO):List PyData->uO
 | [] => .ok (.bool true)
 | x::xs=>match take mk (f x) Uw with
  | .error m => .error m
  | .ok true=>HS mk f xs
  | .ok false => .ok (.bool false)
noncomputable def tell:Tm->PyData->uO
 | .num i,_ => .ok (.int i)
 | .here,d => .ok d
 | .part t k,d=>take "part" (tell t d) fun x=>(QU x).bind fun xs=>if 0<=k then xs[k.toNat]? else none
 | .count t,d=>(take "count" (tell t d) lenOf).map fun (n:Nat)=>PyData.int (n:Int)
 | .sum t,d=>(take "sum" (tell t d) fun x=>(QU x).bind HN).map .int
 | .not t,d=>(take "not" (tell t d) Uw).map fun b => .bool (!b)
 | .turned t,d=>take "turned" (tell t d) Yhb
 | .same a b,d=>match tell a d with
  | .error m => .error m
  | .ok x=>(tell b d).map fun y => .bool (sm x y)
 | .both a b,d=>match take "both" (tell a d) Uw with
  | .error m => .error m
  | .ok false => .ok (.bool false)
  | .ok true=>(take "both" (tell b d) Uw).map .bool
 | .when a b c,d=>match take "when" (tell a d) Uw with
  | .error m => .error m
  | .ok true=>tell b d
  | .ok false=>tell c d
 | .each a b,d=>match take "each" (tell a d) QU with
  | .error m => .error m
  | .ok xs=>HS "each" (fun x=>tell b x) xs
 | .joined a b,d=>match tell a d with
  | .error m => .error m
  | .ok (.list xs)=>take "joined" (tell b d) fun y=>match y with
   | .list ys=>some (.list (xs++ys))
   | _=>none
  | .ok (.str x)=>take "joined" (tell b d) fun y=>match y with
   | .str z=>some (.str (x++z))
   | _=>none
  | .ok _ => .error "joined"
 | .plus a b,d=>match take "plus" (tell a d) UN with
  | .error m => .error m
  | .ok i=>(take "plus" (tell b d) UN).map fun j => .int (i+j)
 | .times a b,d=>match take "times" (tell a d) UN with
  | .error m => .error m
  | .ok i=>(take "times" (tell b d) UN).map fun j => .int (i*j)
 | .less a b,d=>match take "less" (tell a d) UN with
  | .error m => .error m
  | .ok i=>(take "less" (tell b d) UN).map fun j => .bool (decide (i<j))
structure IB (n:Nat) (i:Int):Prop where
 h:i.natAbs<2^(200*2^n)
mutual
def hb:PyData->Prop
 | .list xs=>xs.length<=64/\hbs xs
 | .tuple xs=>xs.length<=64/\hbs xs
 | .str x=>x.length<=64
 | .int i=>IB 0 i
 | .none=>True
 | .bool _=>True
 | .dict _=>False
def hbs:List PyData->Prop
 | []=>True
 | d::ds=>hb d/\hbs ds
end
end L2
namespace L2
open PySem PySem.Spec PyProof.Rows
mutual
def cnt:PyData->Nat
 | .list xs=>Xd xs+1
 | .tuple xs=>Xd xs
 | .dict _=>0
 | .none=>0
 | .bool _=>0
 | .int _=>0
 | .str _=>0
def Xd:List PyData->Nat
 | []=>0
 | d::ds=>cnt d+Xd ds
end
def cb:Nat->Nat
 | 0=>0
 | n+1=>1+4*cb n
def sb:Nat->Nat
 | 0=>60
 | n+1=>4*sb n+11
end L2
set_option maxHeartbeats 4000000
namespace PySem.W
open PySem PySem.Calls PyProof.Rows
section sort
variable {f:Nat->Nat->Bool} {n:Nat}
structure Og (f:Nat->Nat->Bool) (n:Nat):Prop where
 asy:∀ i j,i<n->j<n->f i j=true->f j i=false
 tr:∀ i j k,i<n->j<n->k<n->f j i=false->f k j=false->f k i=false
variable (O:Og f n) (h0:0<n)
include O h0
end sort
end PySem.W
set_option maxHeartbeats 4000000
set_option maxHeartbeats 4000000
set_option maxHeartbeats 4000000
set_option maxHeartbeats 4000000
set_option maxHeartbeats 4000000
set_option maxHeartbeats 4000000
set_option maxHeartbeats 4000000
namespace L2
open PySem PySem.Spec PyProof.Rows PySem.W
abbrev gr (q:Int×List PyData):PyData := .tuple (.int q.1::q.2)
end L2
namespace L2
open PySem PySem.Spec PyProof.Rows
abbrev TBd:=(St->Hp->Prop)->XK->St->Hp->Prop
def PB (X:Cx) (b:List Stmt) (t:TBd):Prop:=∀ (pins:List (Addr×Obj)) (s:Shared) (σ:St) (H:Hp) (nx:St->Hp->Prop) (E:XK) (xh:Value->Shared->Prop) (Qn:Flow->Shared->Prop),Inv X pins σ H s ->
 (∀ H1 s1 e s',Inv X pins σ H1 s1->CXF X.prog X.w X.stack H1 s1 E e s'->xh e s')->(∀ σ' H' s',Inv X pins σ' H' s'->nx σ' H'->Qn .next s')->t nx E σ H->wpAny (model X.prog X.w) X.A (execs b X.env) Qn xh s
set_option maxHeartbeats 4000000
set_option maxHeartbeats 4000000
noncomputable def dN (xs:Dx) (d:PyData) (p:Addr):Dx:=xs.map fun x=>if x.1=d then (x.1,x.2.1,p) else x
noncomputable def aW (xs:Dx) (d:PyData) (b p:Addr):Dx:=match aJ xs d with
 | none=>xs++[(d,b,p)]
 | some _=>dN xs d p
theorem Ygr (xs:Dx) (d:PyData) (p:Addr):(dN xs d p).map (·.1)=xs.map (·.1):=by
 unfold dN;rw [List.map_map];refine List.map_congr_left fun x _=>?_
 show (if x.1=d then (x.1,x.2.1,p) else x).1=x.1
 split<;>rfl
theorem Ygs (xs:Dx) (d e:PyData) (p q:Addr) (h:aJ xs d=some q):aJ (dN xs d p) e=if e=d then some p else aJ xs e:=by
 induction xs with
 | nil=>cases h
 | cons x xs ih =>
  unfold aJ dN at *;simp only [List.map_cons,List.find?_cons] at *;by_cases c:x.1=d
  ·rw [if_pos c]
   by_cases c2:e=d
   ·subst c2;simp [c]
   ·have c3:¬ x.1=e:=fun z=>c2 (z.symm.trans c)
    have c3:¬ d=e:=fun z=>c2 z.symm
    simp only [c,c3,decide_false,if_neg c2];clear ih h
    induction xs with
    | nil=>rfl
    | cons y ys ih2 =>
     simp only [List.map_cons,List.find?_cons];by_cases c4:y.1=d
     ·simp only [c4,if_pos,c3,decide_false];exact ih2
     ·rw [if_neg c4]
      by_cases c5:y.1=e
      ·simp [c5]
      ·simp only [c5,decide_false];exact ih2
  ·rw [if_neg c]
   simp only [c,decide_false] at h;by_cases c2:e=d
   ·subst c2
    simp only [c,decide_false];rw [ih h,if_pos rfl,if_pos trivial]
   ·rw [if_neg c2]
    by_cases c5:x.1=e
    ·simp [c5]
    ·simp only [c5,decide_false]
     have:=ih h;rw [if_neg c2] at this
     exact this
theorem HW (xs:Dx) (d e:PyData) (b p:Addr):aJ (aW xs d b p) e=if e=d then some p else aJ xs e:=by
 unfold aW
 split
 ·rename_i h;exact W3 _ _ _ _ _ h
 ·rename_i h;exact Ygs _ _ _ _ _ h
theorem Yfg (xs:Dx) (d:PyData) (b p:Addr):(aW xs d b p).length<=xs.length+1:=by
 unfold aW
 split
 ·rw [List.length_append];exact Nat.le_refl _
 ·unfold dN;rw [List.length_map];omega
theorem Yfh {xs:Dx} {d:PyData} {b p:Addr} {x:PyData×Addr×Addr} (h:x∈aW xs d b p):x∈xs\/(x.1=d/\x.2.2=p):=by
 unfold aW at h
 split at h
 ·rcases List.mem_append.mp h with h | h
  ·exact .inl h
  ·rw [List.mem_singleton.mp h];exact .inr ⟨rfl,rfl⟩
 ·unfold dN at h
  obtain ⟨y,hy,rfl⟩:=List.mem_map.mp h
  split
  ·rename_i c;exact .inr ⟨c,rfl⟩
  ·exact .inl hy
section
variable {X:Cx} {pins:List (Addr×Obj)} {σ:St} {H:Hp} {s:Shared} {a b:Addr} {d:PyData} {xs:Dx} {A:Around} {E:Value->Shared->Prop}
theorem Yed {p q:Addr} {Q:Unit->Shared->Prop} (hu:A.units+9<cLine) (I:Inv X pins σ H s) (g:aZ X.prog X.w X.K H a xs) (k:DK X.K H b d) (l:aJ xs d=some q) (h:∀ s',Inv X pins σ (upd H a (bO X.prog X.w a (dN xs d p))) s'->Q () s') :
  wpAny (model X.prog X.w) A (setItem (.ref a) (.ref b) (.ref p)) Q E s:=by
 obtain ⟨hd,dd⟩:=Qu I g;have hz:(xs.map XC).length<=sizeLine:=by rw [List.length_map];exact Nat.le_trans g.len (by decide)
 refine wpAny_setItem_heap (hsz:=hz) (show A.in1.units+8<cLine from by have:A.in1.units=A.units+1:=rfl;omega) (Qt I k) dd fun h' pN hs=>h _ ?_
 have e:=WJ xs d;rw [l] at e
 obtain ⟨z,hz,_⟩:=Option.map_eq_some_iff.mp e;rw [storedH_old hz] at pN
 obtain ⟨q,es,ep,hq,h2,h3,h4,_,h5⟩:=pN;refine GC I (by rw [g.at_];exact True.intro) hs ⟨q,hq⟩ (xK hd ⟨q,es,ep,hq,h2,h3,?_⟩);rw [h4]
 congr 1
 rw [List.map_map,dN,List.map_map];refine List.map_congr_left fun x _=>?_
 show putAt d (.ref p) (XC x)=XC (if x.1=d then (x.1,x.2.1,p) else x)
 by_cases c:x.1=d
 ·rw [if_pos c];simp [putAt,XC,c]
 ·rw [if_neg c];simp [putAt,XC,c]
end
theorem aZ.aW {P:Program} {w:World} {K:W.Frag} {H:Hp} {a b p:Addr} {d:PyData} {xs:Dx} (h:aZ P w K H a xs) (k:DK K H b d) (hl:xs.length<1000):aZ P w K (upd H a (bO P w a (L2.aW xs d b p))) a (L2.aW xs d b p):=by
 cases e:aJ xs d with
 | none =>
  have e2:L2.aW xs d b p=xs++[(d,b,p)]:=by unfold L2.aW;rw [e]
  rw [e2];exact h.put k e hl
 | some q =>
  have e2:L2.aW xs d b p=dN xs d p:=by unfold L2.aW;rw [e]
  rw [e2];have t:XO H (upd H a (bO P w a (dN xs d p))):=Wb (fun b o hb e=>by rw [Yg hb];exact e) h.at_ (by intro xs z;cases z) (by intro o v z;cases z);refine ⟨Yd,by rw [Ygr];exact h.nd,by unfold dN;rw [List.length_map];exact h.len,fun x hx=>?_⟩;unfold dN at hx;obtain ⟨y,hy,rfl⟩:=List.mem_map.mp hx;have:=(h.keys y hy).cu t
  split<;>exact this
def HX (P:Program) (w:World) (K:W.Frag) (td ty tv:TE):TS:=fun D σ H=>tv σ H fun v H1=>td σ H1 fun x H2=>ty σ H2 fun y H3=>∃ a b xs d p,v = .ref p/\x = .ref a/\y = .ref b/\aZ P w K H3 a xs/\DK K H3 b d/\xs.length<1000/\D.nx σ (upd H3 a (bO P w a (aW xs d b p)))
section
variable {X:Cx} {o i e value:Expr} {pos pos' tpos:Pos} {td ty tv:TE} {k:Nat}
theorem Yfi (hr:aQ k X.A) (ho:PE X o td) (hi:PE X i ty) (hv:PE X value tv) (hs:swapsWith value (some (.Subscript o i pos')) pos.line X.env=pure false) :
  PS X (.Assign [.Subscript o i pos'] value pos) (HX X.prog X.w X.K td ty tv):=by
 intro pins s σ H D I h;refine wpAny_Assign_Subscript (aG (hv pins s σ H _ I h) fun r s1 ⟨v,H1,I1,rv,q1⟩=>aG (ho pins s1 σ H1 _ I1 q1) fun u s2 ⟨x,H2,I2,rx,q2⟩=>aG (hi pins s2 σ H2 _ I2 q2) fun iv s3 ⟨y,H3,I3,ry,a,b,xs,d,p,ev,ex,ey,g,kk,hl,q3⟩=>?_) hs;subst ex ey ev;obtain rfl:u=Value.ref a:=rx;obtain rfl:iv=Value.ref b:=ry;obtain rfl:r=Value.ref p:=rv
 cases el:aJ xs d with
 | none =>
  have e2:aW xs d b p=xs++[(d,b,p)]:=by unfold aW;rw [el]
  rw [e2] at q3
  exact Qv (Uv hr) I3 g kk el hl fun s4 I4=>⟨σ,_,I4,q3⟩
 | some q =>
  have e2:aW xs d b p=dN xs d p:=by unfold aW;rw [el]
  rw [e2] at q3
  exact Yed (Uv hr) I3 g kk el fun s4 I4=>⟨σ,_,I4,q3⟩
end
inductive gH (L:List (Addr×Sp)) (H:Hp) (a:Addr) (m:Str) (Q:Sp->Prop):Prop
 | mk (C:Addr) (sp:Sp) (hm:(C,sp)∈L) (dx:Addr) (fs:List (Str×V)) (h:H a=some (.ins C dx fs)) (l:fs.lookup m=none) (q:Q sp)
theorem gH.map {L:List (Addr×Sp)} {H:Hp} {a:Addr} {m:Str} {Q Q':Sp->Prop} (h:gH L H a m Q) (f:∀ sp,Q sp->Q' sp):gH L H a m Q':=by
 obtain ⟨C,sp,hm,dx,fs,h1,h2,h3⟩:=h;exact ⟨C,sp,hm,dx,fs,h1,h2,f sp h3⟩
theorem Yv {s u:TS} {D:Ends} {σ:St} {H:Hp} (h:∀ R:St->Hp->Prop,(∀ σ' H',u D σ' H'->R σ' H')->s { D with nx:=R } σ H):Qa s u D σ H:=h _ fun _ _ h=>h
def xM (L:List (Addr×Sp)) (m:Str) (ta:TE) (t:TA):TE:=fun σ H Q=>ta σ H fun x H1=>kR x fun a=>gH L H1 a m fun sp=>t σ H1 fun vs H2=>sp (.ref a::vs) H2 Q E0
def Gx.uP (g:Gx) (j:Nat) (m:Str) (ps:List Str) (L:List (Addr×Sp)):Prop:=∀ C sp,(C,sp)∈L->g.Me j C m ps sp/\Cls g.K C
section
variable {X:Cx} {g:Gx} {j k:Nat} {C:Addr} {m:Str} {ps:List Str} {sp:Sp} {L:List (Addr×Sp)} {o e:Expr} {es:List Expr} {ta:TE} {t:TA} {apos pos:Pos}
theorem Xp:g.uP j m ps []:=fun _ _ h=>by cases h
theorem Yp (F:g.Me j C m ps sp) (c:Cls g.K C) (h:g.uP j m ps L):g.uP j m ps ((C,sp)::L):=fun C' sp' hm=>by
 rcases List.mem_cons.mp hm with e | hm
 ·cases e;exact ⟨F,c⟩
 ·exact h C' sp' hm
theorem XH {pl:Sem Bool} (F:g.uP j m ps L) (hr:aQ k X.A) (ho:PE X o ta) (ha:PA X (e::es) t) (hj:j<=k) (hX:X.gx=g)
  (hst:starEach (e::es) X.env=(false,eval e X.env)::starEach es X.env) (hpl:(backTo pos (starEach es X.env)).any (·.1)=false)
  (ht:eval (.Call (.Attribute o m apos) (e::es) [] pos) X.env=(do
   let ov <- eval o X.env
   standAt apos.atName
   let (f,first) <- holding [ov] (getMethod ov m pl)
   callWith pos f first (backTo pos (starEach (e::es) X.env)) (backToKw pos (keywordEach [] X.env)))):PE X (.Call (.Attribute o m apos) (e::es) [] pos) (xM L m ta t):=by
 subst hX;intro pins s σ H Q I h;refine PySem.W.methodCall_KW (pl:=pl) (aG (ho pins s σ H _ I h) fun u s1 ⟨x,H1,I1,rx,q⟩=>?_) ht
 replace q:=W9.mp q
 obtain ⟨a,ex,C,sp,hL,dx,fs,ea,l,q⟩:=q;subst ex;obtain rfl:u=Value.ref a:=rx;obtain ⟨⟨f,fd,F,b,hm⟩,c⟩:=F C sp hL;refine Qo I1 ea c hm l ?_;refine PySem.W.callWith_K (first:=[.ref a]) (h₀:=X.base) I.ok.mod.jg hm.kp (aG (ha pos pins s1 σ H1 _ I1 q) fun us s2 ⟨vs,H2,I2,r,q2⟩=>⟨I2.bA,?_⟩) hst hpl;exact Uq (us := .ref a::us) (vs := .ref a::vs) F (hr.mono hj) b .nil Vw I2 (.cons rfl r) (by rw [List.append_nil];exact q2)
end
end L2
set_option maxHeartbeats 8000000
namespace KW
open PySem L2
def top (i:Nat):Stmt:=PySem.Challenge.pw_countgen_k59_whole_kinded_terms.main.body.getD i (.Pass ⟨0,0,0,0⟩)
abbrev xO:Stmt:=top 9
theorem HY:ak ["shape","kind"] ["shape"] (Yi xO):=⟨rfl,rfl,rfl,by decide +kernel,rfl,by decide +kernel,by decide +kernel⟩
abbrev xP:Stmt:=top 13
theorem Ia:ak ["term","mark"] ["term"] (Yi xP):=⟨rfl,rfl,rfl,by decide +kernel,rfl,by decide +kernel,by decide +kernel⟩
abbrev xQ:Stmt:=top 19
theorem Yc1:ak ["mark","inner"] ["mark","inner"] (Yi xQ):=⟨rfl,rfl,rfl,by decide +kernel,rfl,by decide +kernel,by decide +kernel⟩
abbrev xR:Stmt:=top 20
theorem Yc2:ak ["term"] ["term"] (Yi xR):=⟨rfl,rfl,rfl,by decide +kernel,rfl,by decide +kernel,by decide +kernel⟩
abbrev xT:Stmt:=top 21
theorem Z5r:ak ["names"] ["names"] (Yi xT):=⟨rfl,rfl,rfl,by decide +kernel,rfl,by decide +kernel,by decide +kernel⟩
abbrev xU:Stmt:=top 22
theorem Yas:ak ["high"] ["high"] (Yi xU):=⟨rfl,rfl,rfl,by decide +kernel,rfl,by decide +kernel,by decide +kernel⟩
abbrev xV:Stmt:=top 23
theorem Z5s:ak [] [] (Yi xV):=⟨rfl,rfl,rfl,by decide +kernel,rfl,by decide +kernel,by decide +kernel⟩
abbrev xW:Stmt:=top 24
theorem uQ:ak ["high","two","three","branches"] ["high"] (Yi xW):=⟨rfl,rfl,rfl,by decide +kernel,rfl,by decide +kernel,by decide +kernel⟩
abbrev xX:Stmt:=top 25
theorem uR:ak ["high","numbers","number_branches","truth_branches"] ["high"] (Yi xX):=⟨rfl,rfl,rfl,by decide +kernel,rfl,by decide +kernel,by decide +kernel⟩
abbrev xY:Stmt:=top 27
theorem Ib:ak ["book","name","pair"] ["book","name"] (Yi xY):=⟨rfl,rfl,rfl,by decide +kernel,rfl,by decide +kernel,by decide +kernel⟩
abbrev xZ:Stmt:=top 29
theorem Z49:ak ["thing"] ["thing"] (Yi xZ):=⟨rfl,rfl,rfl,by decide +kernel,rfl,by decide +kernel,by decide +kernel⟩
abbrev yc:Stmt:=top 30
theorem yd:ak ["branches","mark","place","branch"] ["branches","mark"] (Yi yc):=⟨rfl,rfl,rfl,by decide +kernel,rfl,by decide +kernel,by decide +kernel⟩
abbrev yg:Stmt:=top 31
theorem Ybz:ak ["branches","value"] ["branches","value"] (Yi yg):=⟨rfl,rfl,rfl,by decide +kernel,rfl,by decide +kernel,by decide +kernel⟩
abbrev yh:Stmt:=top 32
theorem Ie:ak ["shape","value","kind"] ["shape","value"] (Yi yh):=⟨rfl,rfl,rfl,by decide +kernel,rfl,by decide +kernel,by decide +kernel⟩
abbrev yj:Stmt:=top 33
theorem Ig:ak ["book","shape","value","kind"] ["book","shape","value"] (Yi yj):=⟨rfl,rfl,rfl,by decide +kernel,rfl,by decide +kernel,by decide +kernel⟩
abbrev yq:Stmt:=top 34
theorem Z53:ak ["keys"] ["keys"] (Yi yq):=⟨rfl,rfl,rfl,by decide +kernel,rfl,by decide +kernel,by decide +kernel⟩
abbrev yr:Stmt:=top 41
theorem Ih:ak ["shape","value","keys","kind"] ["shape","value","keys"] (Yi yr):=⟨rfl,rfl,rfl,by decide +kernel,rfl,by decide +kernel,by decide +kernel⟩
abbrev yt:Stmt:=top 42
theorem pO:ak ["book","shape","value","keys","part","thing","key"] ["book","shape","value"] (Yi yt):=⟨rfl,rfl,rfl,by decide +kernel,rfl,by decide +kernel,by decide +kernel⟩
abbrev yu:Stmt:=top 51
theorem Yc3:ak ["blocks"] ["blocks"] (Yi yu):=⟨rfl,rfl,rfl,by decide +kernel,rfl,by decide +kernel,by decide +kernel⟩
abbrev yw:Stmt:=top 52
theorem mU:ak ["blocks","number","place","left","rest"] ["blocks","number"] (Yi yw):=⟨rfl,rfl,rfl,by decide +kernel,rfl,by decide +kernel,by decide +kernel⟩
abbrev yC:Stmt:=top 57
theorem Z4y:ak ["size"] ["size"] (Yi yC):=⟨rfl,rfl,rfl,by decide +kernel,rfl,by decide +kernel,by decide +kernel⟩
abbrev yD:Stmt:=top 68
theorem Ya2:ak ["book","shape"] ["book","shape"] (Yi yD):=⟨rfl,rfl,rfl,by decide +kernel,rfl,by decide +kernel,by decide +kernel⟩
abbrev yE:Stmt:=top 70
theorem Yc4:ak ["book","shape","size"] ["book","shape","size"] (Yi yE):=⟨rfl,rfl,rfl,by decide +kernel,rfl,by decide +kernel,by decide +kernel⟩
abbrev yF:Stmt:=top 71
theorem Ii:ak ["book","shape","size","maker"] ["book","shape","size"] (Yi yF):=⟨rfl,rfl,rfl,by decide +kernel,rfl,by decide +kernel,by decide +kernel⟩
abbrev yG:Stmt:=top 73
theorem Ij:ak ["book","shape","value","key"] ["book","shape","value"] (Yi yG):=⟨rfl,rfl,rfl,by decide +kernel,rfl,by decide +kernel,by decide +kernel⟩
abbrev yH:Stmt:=top 74
theorem Ygt:ak ["book","shape","value"] ["book","shape","value"] (Yi yH):=⟨rfl,rfl,rfl,by decide +kernel,rfl,by decide +kernel,by decide +kernel⟩
abbrev yI:Stmt:=top 75
theorem Yc5:ak ["book","shape","value"] ["book","shape","value"] (Yi yI):=⟨rfl,rfl,rfl,by decide +kernel,rfl,by decide +kernel,by decide +kernel⟩
abbrev yJ:Stmt:=top 77
theorem Z4f:ak ["count","most"] ["count","most"] (Yi yJ):=⟨rfl,rfl,rfl,by decide +kernel,rfl,by decide +kernel,by decide +kernel⟩
abbrev yK:Stmt:=top 78
theorem YbA:ak ["maker","size"] ["maker","size"] (Yi yK):=⟨rfl,rfl,rfl,by decide +kernel,rfl,by decide +kernel,by decide +kernel⟩
abbrev yL:Stmt:=top 79
theorem Ik:ak ["book","shape","size","most","maker"] ["book","shape","size","most"] (Yi yL):=⟨rfl,rfl,rfl,by decide +kernel,rfl,by decide +kernel,by decide +kernel⟩
abbrev yM:Stmt:=top 81
theorem yN:ak ["book","shape","size","number","maker","count"] ["book","shape","size","number"] (Yi yM):=⟨rfl,rfl,rfl,by decide +kernel,rfl,by decide +kernel,by decide +kernel⟩
abbrev yO:Stmt:=top 83
theorem pP:ak ["_law_term","_law_mark","_law_inner","_law_kinds"] ["_law_term"] (Yi yO):=⟨rfl,rfl,rfl,by decide +kernel,rfl,by decide +kernel,by decide +kernel⟩
abbrev yP:Stmt:=top 84
theorem yQ:ak ["_law_term","_law_high","_law_mark","_law_many"] ["_law_term","_law_high"] (Yi yP):=⟨rfl,rfl,rfl,by decide +kernel,rfl,by decide +kernel,by decide +kernel⟩
abbrev yR:Stmt:=top 85
theorem jz:ak ["_law_raw","_law_high","_law_counts","_law_cell","_law_kinded","_law_size","_law_many","_law_term","_law_kind_here","_law_name"] ["_law_raw","_law_high","_law_counts","_law_cell"] (Yi yR):=⟨rfl,rfl,rfl,by decide +kernel,rfl,by decide +kernel,by decide +kernel⟩
abbrev uT:Stmt:=top 86
theorem X6:ak ["_law_script","_law_first","_law_high","_law_raw","_law_counts","_law_cell","_law_size","_law_kinds","_law_name"] ["_law_script"] (Yi uT):=⟨rfl,rfl,rfl,by decide +kernel,rfl,by decide +kernel,by decide +kernel⟩
abbrev yS:Stmt:=YQ (top 67) 0
theorem Z4h:ak ["self","book"] ["self","book"] (Yi yS):=⟨rfl,rfl,rfl,by decide +kernel,rfl,by decide +kernel,by decide +kernel⟩
abbrev yU:Stmt:=YQ (top 67) 1
theorem Z4i:ak ["self","shape"] ["self","shape"] (Yi yU):=⟨rfl,rfl,rfl,by decide +kernel,rfl,by decide +kernel,by decide +kernel⟩
abbrev yV:Stmt:=YQ (top 67) 2
theorem Il:ak ["self","shape","maker"] ["self","shape"] (Yi yV):=⟨rfl,rfl,rfl,by decide +kernel,rfl,by decide +kernel,by decide +kernel⟩
abbrev yW:Stmt:=YQ (top 67) 3
theorem yX:ak ["self","shape","kind","parts"] ["self","shape"] (Yi yW):=⟨rfl,rfl,rfl,by decide +kernel,rfl,by decide +kernel,by decide +kernel⟩
abbrev yZ:Stmt:=YQ (top 58) 0
theorem Z2Q:ak ["self","low","high"] ["self","low","high"] (Yi yZ):=⟨rfl,rfl,rfl,by decide +kernel,rfl,by decide +kernel,by decide +kernel⟩
abbrev za:Stmt:=YQ (top 58) 1
theorem Im:ak ["self","size","greatest"] ["self","size"] (Yi za):=⟨rfl,rfl,rfl,by decide +kernel,rfl,by decide +kernel,by decide +kernel⟩
abbrev zc:Stmt:=YQ (top 58) 2
theorem Z2R:ak ["self","size","number"] ["self","size","number"] (Yi zc):=⟨rfl,rfl,rfl,by decide +kernel,rfl,by decide +kernel,by decide +kernel⟩
abbrev zf:Stmt:=YQ (top 53) 0
theorem Z3m:ak ["self","parts"] ["self","parts"] (Yi zf):=⟨rfl,rfl,rfl,by decide +kernel,rfl,by decide +kernel,by decide +kernel⟩
abbrev zj:Stmt:=YQ (top 53) 1
theorem Z3W:ak ["self","place","left"] ["self","place","left"] (Yi zj):=⟨rfl,rfl,rfl,by decide +kernel,rfl,by decide +kernel,by decide +kernel⟩
abbrev zm:Stmt:=YQ (top 53) 2
theorem Io:ak ["self","size","place"] ["self","size"] (Yi zm):=⟨rfl,rfl,rfl,by decide +kernel,rfl,by decide +kernel,by decide +kernel⟩
abbrev zp:Stmt:=YQ (top 53) 3
theorem Ip:ak ["self","place","left","part"] ["self","place","left"] (Yi zp):=⟨rfl,rfl,rfl,by decide +kernel,rfl,by decide +kernel,by decide +kernel⟩
abbrev zq:Stmt:=YQ (top 60) 0
theorem Z3n:ak ["self","parts"] ["self","parts"] (Yi zq):=⟨rfl,rfl,rfl,by decide +kernel,rfl,by decide +kernel,by decide +kernel⟩
abbrev zu:Stmt:=YQ (top 60) 1
theorem Z3o:ak ["self","size"] ["self","size"] (Yi zu):=⟨rfl,rfl,rfl,by decide +kernel,rfl,by decide +kernel,by decide +kernel⟩
abbrev zx:Stmt:=YQ (top 60) 2
theorem ZG:ak ["self","size","number","things","left","rest","place","part","found"] ["self","size","number"] (Yi zx):=⟨rfl,rfl,rfl,by decide +kernel,rfl,by decide +kernel,by decide +kernel⟩
abbrev zy:Stmt:=YQ (top 64) 0
theorem Z31:ak ["self","marks","parts"] ["self","marks","parts"] (Yi zy):=⟨rfl,rfl,rfl,by decide +kernel,rfl,by decide +kernel,by decide +kernel⟩
abbrev zA:Stmt:=YQ (top 64) 1
theorem Z2S:ak ["self","size"] ["self","size"] (Yi zA):=⟨rfl,rfl,rfl,by decide +kernel,rfl,by decide +kernel,by decide +kernel⟩
abbrev zB:Stmt:=YQ (top 64) 2
theorem Z32:ak ["self","size"] ["self","size"] (Yi zB):=⟨rfl,rfl,rfl,by decide +kernel,rfl,by decide +kernel,by decide +kernel⟩
abbrev zE:Stmt:=YQ (top 64) 3
theorem Ir:ak ["self","size","number","found"] ["self","size","number"] (Yi zE):=⟨rfl,rfl,rfl,by decide +kernel,rfl,by decide +kernel,by decide +kernel⟩
abbrev zF:Stmt:=YQ (top 65) 0
theorem Z3p:ak ["self"] ["self"] (Yi zF):=⟨rfl,rfl,rfl,by decide +kernel,rfl,by decide +kernel,by decide +kernel⟩
abbrev zG:Stmt:=YQ (top 65) 1
theorem Z3q:ak ["self","size"] ["self","size"] (Yi zG):=⟨rfl,rfl,rfl,by decide +kernel,rfl,by decide +kernel,by decide +kernel⟩
abbrev zH:Stmt:=YQ (top 65) 2
theorem Z3r:ak ["self","size","number"] ["self","size","number"] (Yi zH):=⟨rfl,rfl,rfl,by decide +kernel,rfl,by decide +kernel,by decide +kernel⟩
abbrev zJ:Stmt:=YQ (top 50) 0
theorem Z4z:ak ["self","place","choice","rest"] ["self","place","choice","rest"] (Yi zJ):=⟨rfl,rfl,rfl,by decide +kernel,rfl,by decide +kernel,by decide +kernel⟩
abbrev zK:Stmt:=YQ (top 56) 0
theorem Z4A:ak ["self"] ["self"] (Yi zK):=⟨rfl,rfl,rfl,by decide +kernel,rfl,by decide +kernel,by decide +kernel⟩
abbrev zL:Stmt:=YQ (top 56) 1
theorem Z2T:ak ["self","size"] ["self","size"] (Yi zL):=⟨rfl,rfl,rfl,by decide +kernel,rfl,by decide +kernel,by decide +kernel⟩
abbrev zM:Stmt:=YQ (top 56) 1
theorem Z3s:ak ["self","size"] ["self","size"] (Yi zM):=⟨rfl,rfl,rfl,by decide +kernel,rfl,by decide +kernel,by decide +kernel⟩
abbrev zN:Stmt:=YQ (top 56) 1
theorem Z33:ak ["self","size"] ["self","size"] (Yi zN):=⟨rfl,rfl,rfl,by decide +kernel,rfl,by decide +kernel,by decide +kernel⟩
abbrev zO:Stmt:=YQ (top 56) 1
theorem Z3t:ak ["self","size"] ["self","size"] (Yi zO):=⟨rfl,rfl,rfl,by decide +kernel,rfl,by decide +kernel,by decide +kernel⟩
variable {g:Gx}
local macro_rules | `(tactic| walk_at "rd")=>`(tactic| (dsimp (config:={ failIfUnchanged:=false }) only [L2.Wq,G8,G9,List.map_cons,List.map_nil,List.length_cons,List.length_nil,List.cons_append,List.nil_append,List.replicate_succ,List.replicate_zero,Nat.reduceAdd,Nat.reduceSub,Qa,pD,UI,iD,tC,XN,fQ,rI,rU,wC,rM,Fp,vZ,Qj,Fl,Fo,tR,YG,Xr,XF,mJ,XS,xH,Hu,Hr,rT,rR,UK,Qp,Ends.gone,tB,rJ,vU,rK,vV,vW,vX,vY,Qm,Gj,wM,wN,v7,rN,rW,um,rY,ud,V8,VF,w6,xG,uH,Hj,GJ,GD,GF,Hx,xJ,Hy,xM,Hw,xg,Hi,uo,wQ,su,QO,Gu,pG,wG,sG,Gp,v9,tU,YI,List.getD_cons_zero,List.getD_cons_succ,List.getElem?_cons_zero,List.getElem?_cons_succ,List.set_cons_zero,List.set_cons_succ,Fe,Fg,Ey,Ez,EY,Fb,Fd,rZ,wW,wJ,wK,Fx,Fy];simp (config:={ failIfUnchanged:=false,maxSteps:=10000000 }) only [L2.Wq,G8,G9,List.map_cons,List.map_nil,List.length_cons,List.length_nil,List.cons_append,List.nil_append,List.replicate_succ,List.replicate_zero,Nat.zero_add,Nat.reduceAdd,Nat.reduceSub,Nat.sub_self,Qa,pD,UI,iD,tC,XN,fQ,rI,rU,wC,rM,Fp,vZ,Qj,Fl,Fo,tR,YG,V6,Xz,Xr,XF,mJ,XS,xH,Hu,Hr,rT,rR,UK,Qp,Ends.gone,tB,rJ,vU,rK,vV,vW,vX,vY,Qm,Gj,wM,wN,v7,rN,rW,um,rY,ud,V8,VF,w6,xG,uH,Hj,GJ,GD,GF,Hx,xJ,Hy,xM,Hw,xg,Hi,uo,wQ,su,QO,Gu,pG,wG,Tz,Xj,sG,Gp,v9,tU,YI,List.getD_cons_zero,List.getD_cons_succ,decide_true,not_true_eq_false,not_false_eq_true,exists_eq_left',exists_eq_left,exists_eq',exists_eq,exists_and_left,and_assoc,Option.some.injEq,V.int.injEq,V.bl.injEq,V.ref.injEq,V.str.injEq,List.getElem?_cons_zero,List.getElem?_cons_succ,List.set_cons_zero,List.set_cons_succ,List.cons.injEq,and_true,true_and,List.append_nil,decide_eq_true_eq,Bool.not_eq_true',decide_eq_false_iff_not,Bool.not_not,Bool.not_true,Bool.not_false,Bool.true_eq_false,Bool.false_eq_true,if_true,if_false,ite_true,ite_false,Fe,Fg,Ey,Ez,EY,Fb,Fd,rZ,wW,wJ,wK,Fx,Fy,QK,Ul,W9,wF]))
theorem cm {i j:Int} {m n:Nat} (h1:i.natAbs<2^m) (h2:j.natAbs<2^n) (h:m+n<=100000000:=by decide):uG i j:=⟨m,n,h1,h2,h⟩
theorem Oh {i j:Int} (h:0<=j/\j<=1000000/\i.natAbs<2^64:=by decide):rP i j:=h
theorem few {n:Nat} (h:n<=100000):n<=sizeLine:=Nat.le_trans h (by decide)
theorem Iu (x:Int) {j:Int} (h:0<j):∃ r:Nat,x%j=r/\(r:Int)<j:=⟨(x%j).toNat,by have:=Int.emod_nonneg x (Int.ne_of_gt h);omega,by have:=Int.emod_lt_of_pos x h;have:=Int.emod_nonneg x (Int.ne_of_gt h);omega⟩
def SameBut (p:Addr) (H H':Hp):Prop:=∀ q o,q≠p->H q=some o->H' q=some o
inductive Sh | w (lo:Int) (span:Nat) | row (ps:List Sh) | pick (mk:List (List Nat)) (ps:List Sh) | use (x:List Nat)
def wc (span:Int) (k:Nat):Int:=if (if (1*2^k - 1:Int)<span then (1*2^k - 1:Int) else span) - 1*2^k / 2^1+1>0 then (if (1*2^k - 1:Int)<span then (1*2^k - 1:Int) else span) - 1*2^k / 2^1+1 else 0
mutual
def dep:Sh->Nat
 | .row ps=>YU ps+1
 | .pick _ ps=>YU ps+1
 | _=>0
def YU:List Sh->Nat
 | []=>0
 | p::ps=>max (dep p) (YU ps)
end
theorem WB {p:Sh}:∀ {ps:List Sh},p∈ps->dep p<=YU ps
 | q::ps,h=>by
  rw [YU];rcases List.mem_cons.mp h with rfl | h
  ·omega
  ·have:=WB h
   omega
mutual
def cnt (bk:List Nat->Sh):Sh->Nat->Int
 | .w _ span,s=>wc span s
 | .row ps,s=>YD bk ps s
 | .pick _ ps,s=>uU bk ps s
 | .use x,s=>if h:s=0 then 0 else cnt bk (bk x) (s - 1)
termination_by sh s=>(s,sizeOf sh)
decreasing_by
 ·simp only [Prod.lex_def];right;simp
 ·simp only [Prod.lex_def];right;simp;omega
 ·simp only [Prod.lex_def];left;omega
def YD (bk:List Nat->Sh):List Sh->Nat->Int
 | [],s=>if s=0 then 1 else 0
 | p::ps,s=>((List.range (s+1)).attach.map fun ⟨f,hf⟩=>cnt bk p f*YD bk ps (s - f)).sum
termination_by ps s=>(s,sizeOf ps)
decreasing_by
 ·have:=List.mem_range.mp hf
  simp only [Prod.lex_def];by_cases c:f<s
  ·left;exact c
  ·right;exact ⟨by omega,by simp;omega⟩
 ·simp only [Prod.lex_def]
  by_cases c:s - f<s
  ·left;exact c
  ·right;exact ⟨by omega,by simp;omega⟩
def uU (bk:List Nat->Sh):List Sh->Nat->Int
 | [],_=>0
 | p::ps,s=>cnt bk p s+uU bk ps s
termination_by ps s=>(s,sizeOf ps)
decreasing_by
 ·simp only [Prod.lex_def];right;exact ⟨trivial,by simp;omega⟩
 ·simp only [Prod.lex_def];right;exact ⟨trivial,by simp;omega⟩
end
theorem Qx (bk:List Nat->Sh) (lo:Int) (span s:Nat):cnt bk (.w lo span) s=wc span s:=by rw [cnt]
theorem XI (bk:List Nat->Sh) (ps:List Sh) (s:Nat):cnt bk (.row ps) s=YD bk ps s:=by rw [cnt]
theorem WC (bk:List Nat->Sh) (mk:List (List Nat)) (ps:List Sh) (s:Nat):cnt bk (.pick mk ps) s=(ps.map fun p=>cnt bk p s).sum:=by
 rw [cnt]
 induction ps with
 | nil=>rw [uU];rfl
 | cons p ps ih=>rw [uU,ih];rfl
theorem WD (bk:List Nat->Sh) (x:List Nat):cnt bk (.use x) 0=0:=by rw [cnt,dif_pos rfl]
theorem W7 (bk:List Nat->Sh) (x:List Nat) (s:Nat):cnt bk (.use x) (s+1)=cnt bk (bk x) s:=by rw [cnt,dif_neg (by omega)];rfl
theorem Xw (bk:List Nat->Sh) (s:Nat):YD bk [] s=if s=0 then 1 else 0:=by rw [YD]
theorem XT (bk:List Nat->Sh) (p:Sh) (ps:List Sh) (s:Nat):YD bk (p::ps) s=((List.range (s+1)).map fun f=>cnt bk p f*YD bk ps (s - f)).sum:=by
 rw [YD]
 congr 1
 exact List.attach_map_val (f:=fun f=>cnt bk p f*YD bk ps (s - f))
mutual
def kd:Sh->PyData
 | .w lo span => .tuple [.str "whole",.int lo,.int (lo+span)]
 | .row ps => .tuple [.str "row",.tuple (bQ ps)]
 | .pick mk ps => .tuple [.str "pick",.tuple (kdp mk ps)]
 | .use x => .tuple [.str "use",.str (S x)]
def bQ:List Sh->List PyData
 | []=>[]
 | p::ps=>kd p::bQ ps
def kdp:List (List Nat)->List Sh->List PyData
 | m::mk,p::ps => .tuple [.str (S m),kd p]::kdp mk ps
 | _,_=>[]
end
variable {m:Nat}
variable {src:List (Option Nat)} {te:TE} {σ:St} {H:Hp} {Q:VK}
variable {P0:Program} {w0:World} {K:W.Frag} {C:Cs} {CL:Addr} {prs:aL} {w:Wo} {U O:Addr->Prop} {H H':Hp} {ls dx d B:Addr} {xs:Dx}
variable {P0:Program} {w0:World} {K:W.Frag} {C:Cs} {CL:Addr} {prs:aL} {w w1:Wo} {U U1 O:Addr->Prop} {H H1 H3:Hp} {ls dx d B:Addr} {xs xs1:Dx}
variable {P0:Program} {w0:World} {K:W.Frag} {C:Cs} {CL:Addr} {prs:aL} {w:Wo} {U O O':Addr->Prop} {H H':Hp} {ls dx d B:Addr} {xs:Dx}
variable {K:W.Frag} {σ:St} {H:Hp} {d:PyData} {ds:List PyData} {t:TE} {u:TA}
def Xd (f:Nat->Int) (n:Nat):List V:=(List.range n).map fun k=>V.int (f k)
theorem YN (f:Nat->Int) (n:Nat):(Xd f n).length=n:=by simp [Xd]
theorem XL (f:Nat->Int) (n:Nat):Xd f (n+1)=Xd f n++[.int (f n)]:=by simp [Xd,List.range_succ]
theorem Xs (f:Nat->Int) {n i:Nat} (h:i<n):dY (Xd f n) (i:Int)=some (.int (f i)):=Yr (by simp [Xd,h])
theorem dle (x k:Nat):decide ((x:Int)<=(k:Int))=decide (x<=k):=decide_eq_decide.mpr (by omega)
structure Cs where
 (w row tab pick use:Addr)
structure Wo where
 bk:List Nat->Sh
 reg:Addr->Option Sh
 D:Addr->Option (Addr×Nat)
 M:Nat
structure Sw where
 ns:Addr->Nat
 ms:Addr->Nat->Nat
 U:Addr->Prop
def Ub (C:Cs):Sh->Addr
 | .w _ _=>C.w
 | .row _=>C.row
 | .pick _ _=>C.pick
 | .use _=>C.use
def WR (reg:Addr->Option Sh) (as:List Addr) (ps:List Sh):Prop:=as.length=ps.length/\∀ (i:Nat) a p,as[i]?=some a->ps[i]?=some p->reg a=some p
def sm (x:Int):Prop:=∃ n:Nat,n<=10000000/\x.natAbs<2^n
def Un (w:Wo) (t:Sw) (b:Addr):Prop:=w.D b=none/\t.U b
def fW (lo:Int) (span:Nat):List (Str×V):=[("low",.int lo),("span",.int span)]
def fR (P T:Addr):List (Str×V):=[("parts",.ref P),("table",.ref T)]
def Wv (P L:Addr):List (Str×V):=[("parts",.ref P),("ways",.ref L)]
def fP (M P:Addr):List (Str×V):=[("marks",.ref M),("parts",.ref P)]
def fU (a:V):List (Str×V):=[("named",a)]
def mf (c:Addr) (fs:List (Str×V)):List (Str×V):=("counts",.ref c)::fs
structure fD (w:Wo) (t:Sw) (p:Addr) (as:List Addr) (ps:List Sh):Prop where
 len:as.length=ps.length
 reg:∀ (i:Nat) a p,as[i]?=some a->ps[i]?=some p->w.reg a=some p
 cn:∀ a∈as,t.ns p<=t.ns a
structure eO (w:Wo) (t:Sw) (p:Addr) (as:List Addr) (ps:List Sh):Prop where
 len:as.length=ps.length
 reg:∀ (i:Nat) a p,as[i]?=some a->ps[i]?=some p->w.reg a=some p
 cn:∀ (i:Nat) a,as[i]?=some a->t.ms p i<=t.ns a
def UO (C:Cs) (H:Hp) (q:Addr) (i:Nat) (a:Addr):Prop:=∃ dx c P T,∃ as:List Addr,H q=some (.ins C.row dx (mf c (fR P T)))/\H P=some (.lst (as.map V.ref))/\as[i]?=some a
def Sub (C:Cs) (w:Wo) (t:Sw) (H:Hp) (p:Addr):Sh->List (Str×V)->Prop
 | .w lo span,fs=>fs=fW lo span
 | .row ps,fs=>∃ (P T dt L:Addr) (as ws:List Addr),fs=fR P T/\Un w t P/\Un w t T/\Un w t L/\H P=some (.lst (as.map V.ref))/\eO w t p as ps/\ps.length<=100 /\
   H T=some (.ins C.tab dt (Wv P L))/\H L=some (.lst (ws.map V.ref))/\ws.length=ps.length+1 /\
   (∀ (i:Nat) x,ws[i]?=some x->w.D x=some (p,i+1)/\t.ns p<=t.ms p i/\t.ms p i<=60/\H x=some (.lst (Xd (YD w.bk (ps.drop i)) (t.ms p i))))/\∀ i s,s<=45->sm (YD w.bk (ps.drop i) s)
 | .pick mk ps,fs=>∃ (M P:Addr) (as:List Addr),fs=fP M P/\Un w t M/\Un w t P/\H M=some (.lst (mk.map fun m=>V.str (S m)))/\H P=some (.lst (as.map V.ref))/\fD w t p as ps/\ps.length<=100
 | .use x,fs=>∃ a,fs=fU (.ref a)/\w.reg a=some (w.bk x)/\t.ns p<=t.ns a+1
def zP (H:Hp):Sh->List (Str×V)->List Addr->Prop
 | .w _ _,_,as=>as=[]
 | .row _,_,as=>as=[]
 | .pick _ _,fs,as=>∃ M P,fs=fP M P/\H P=some (.lst (as.map V.ref))
 | .use _,fs,as=>∃ a,fs=fU (.ref a)/\as=[a]
def uV:Sh->Nat
 | .use _=>1
 | _=>0
def Ww (C:Cs) (w:Wo) (t:Sw) (H:Hp) (p:Addr) (sh:Sh):Prop:=∃ (dx c:Addr) (fs:List (Str×V)),Un w t p/\dep sh<=w.M/\(∀ s,s<=45->sm (cnt w.bk sh s))/\t.ns p<=60/\H p=some (.ins (Ub C sh) dx (mf c fs))/\w.D c=some (p,0)/\H c=some (.lst (Xd (cnt w.bk sh) (t.ns p)))/\Sub C w t H p sh fs
structure WI (C:Cs) (w:Wo) (t:Sw) (H:Hp):Prop where
 at_:∀ p sh,w.reg p=some sh->Ww C w t H p sh
 al:∀ b,t.U b->H b≠none
 ow:∀ b x,w.D b=some x->t.U b
 inj:∀ b b' x,w.D b=some x->w.D b'=some x->b=b'
theorem Sub.keep {C:Cs} {w:Wo} {t:Sw} {H H':Hp} {p:Addr} (ow:∀ b x,w.D b=some x->t.U b) (hk:∀ b o,t.U b->H b=some o->H' b=some o):∀ {sh:Sh} {fs:List (Str×V)},Sub C w t H p sh fs->Sub C w t H' p sh fs
 | .w lo span,fs,h=>h
 | .row ps,fs,h=>by
  obtain ⟨P,T,dt,L,as,ws,h1,h2,h3,h4,h5,h6,h7,h8,h9,h10,h11,h12⟩:=h;exact ⟨P,T,dt,L,as,ws,h1,h2,h3,h4,hk _ _ h2.2 h5,h6,h7,hk _ _ h3.2 h8,hk _ _ h4.2 h9,h10,fun i x hx=>⟨(h11 i x hx).1,(h11 i x hx).2.1,(h11 i x hx).2.2.1,hk _ _ (ow _ _ (h11 i x hx).1) (h11 i x hx).2.2.2⟩,h12⟩
 | .pick mk ps,fs,h=>by
  obtain ⟨M,P,as,h1,h2,h3,h4,h5,h6,h7⟩:=h;exact ⟨M,P,as,h1,h2,h3,hk _ _ h2.2 h4,hk _ _ h3.2 h5,h6,h7⟩
 | .use x,fs,h=>h
theorem WI.keep {C:Cs} {w:Wo} {t:Sw} {H H':Hp} (h:WI C w t H) (hk:∀ b o,t.U b->H b=some o->H' b=some o):WI C w t H':=by
 refine ⟨fun p sh hr=>?_,fun b hb=>?_,h.ow,h.inj⟩
 ·obtain ⟨dx,c,fs,h1,h2,h3,h4,h5,h6,h7,h8⟩:=h.at_ p sh hr
  exact ⟨dx,c,fs,h1,h2,h3,h4,hk _ _ h1.2 h5,h6,hk _ _ (h.ow _ _ h6) h7,h8.keep h.ow hk⟩
 ·have:=h.al b hb
  cases e:H b with
  | none=>exact absurd e this
  | some o=>rw [hk b o hb e];intro z;cases z
theorem WI.same {C:Cs} {w:Wo} {t:Sw} {H H':Hp} (h:WI C w t H) (s:Yj H H'):WI C w t H':=h.keep fun b o _ e=>s _ _ e
theorem WI.new {C:Cs} {w:Wo} {t:Sw} {H:Hp} (h:WI C w t H) {a:Addr} (ha:H a=none):w.D a=none/\¬ t.U a:=by
 have n:¬ t.U a:=fun z=>h.al a z ha
 refine ⟨?_,n⟩
 cases e:w.D a with
 | none=>rfl
 | some x=>exact absurd (h.ow a x e) n
theorem WI.loc {C:Cs} {w:Wo} {t:Sw} {H:Hp} (h:WI C w t H) {a:Addr} (ha:¬ t.U a) (o:HO):WI C w t (upd H a o):=h.keep fun b u hb e=>by rw [Yg fun z=>ha (by rw [<- z];exact hb)];exact e
def Sw.bV (t:Sw) (p:Addr) (n:Nat):Sw:={ t with ns:=fun q=>if q=p then n else t.ns q }
def Sw.gJ (t:Sw) (p:Addr) (i n:Nat):Sw:={ t with ms:=fun q j=>if q=p/\i<=j then n else t.ms q j }
theorem fD.bV {w:Wo} {t:Sw} {p q:Addr} {as:List Addr} {ps:List Sh} {n:Nat} (h:fD w t p as ps) (hge:t.ns q<=n) (hp:p=q->∀ a∈as,n<=t.ns a):fD w (t.bV q n) p as ps:=⟨h.1,h.2,fun a ha=>by
 show (if p=q then n else t.ns p)<=(if a=q then n else t.ns a)
 have h3:=h.3 a ha;by_cases e:p=q
 ·have:=hp e a ha
  rw [if_pos e]
  split<;>omega
 ·rw [if_neg e]
  split
  ·rename_i z;rw [z] at h3;omega
  ·exact h3⟩
theorem eO.bV {w:Wo} {t:Sw} {p q:Addr} {as:List Addr} {ps:List Sh} {n:Nat} (h:eO w t p as ps) (hge:t.ns q<=n):eO w (t.bV q n) p as ps:=⟨h.1,h.2,fun i a ha=>by
 show t.ms p i<=(if a=q then n else t.ns a)
 have h3:=h.3 i a ha
 split
 ·rename_i z;rw [z] at h3;omega
 ·exact h3⟩
theorem Sub.bV {C:Cs} {w:Wo} {t:Sw} {H:Hp} {p q c:Addr} {n:Nat} {o:HO} (hc:w.D c=some (q,0)) (hge:t.ns q<=n):∀ {sh:Sh} {fs:List (Str×V)},(p=q->∀ ps,sh = .row ps->∀ i,n<=t.ms p i)->(p=q->∀ as,zP H sh fs as->∀ a∈as,n<=t.ns a+uV sh)->Sub C w t H p sh fs->Sub C w (t.bV q n) (upd H c o) p sh fs
 | .w lo span,fs,_,_,h=>h
 | .row ps,fs,cA,hpt,h=>by
  obtain ⟨P,T,dt,L,as,ws,h1,h2,h3,h4,h5,h6,h7,h8,h9,h10,h11,h12⟩:=h;have ne:∀ {b:Addr},w.D b=none->b≠c:=fun e z=>by rw [z,hc] at e;cases e
  refine ⟨P,T,dt,L,as,ws,h1,h2,h3,h4,(Yg (ne h2.1)).trans h5,h6.bV hge,h7,(Yg (ne h3.1)).trans h8,(Yg (ne h4.1)).trans h9,h10,fun i x hx=>⟨(h11 i x hx).1,?_,(h11 i x hx).2.2.1,?_⟩,h12⟩
  ·show (if p=q then n else t.ns p)<=t.ms p i
   by_cases e:p=q
   ·rw [if_pos e];exact cA e ps rfl i
   ·rw [if_neg e];exact (h11 i x hx).2.1
  ·rw [Yg fun z=>by have:=(h11 i x hx).1;rw [z,hc] at this;injection this with this;injection this with _ this;omega]
   exact (h11 i x hx).2.2.2
 | .pick mk ps,fs,_,hpt,h=>by
  obtain ⟨M,P,as,h1,h2,h3,h4,h5,h6,h7⟩:=h;have ne:∀ {b:Addr},w.D b=none->b≠c:=fun e z=>by rw [z,hc] at e;cases e
  exact ⟨M,P,as,h1,h2,h3,(Yg (ne h2.1)).trans h4,(Yg (ne h3.1)).trans h5,h6.bV hge (fun e a ha=>hpt e as ⟨M,P,h1,h5⟩ a ha),h7⟩
 | .use x,fs,_,hpt,⟨a,h1,h2,h3⟩=>by
  refine ⟨a,h1,h2,?_⟩
  show (if p=q then n else t.ns p)<=(if a=q then n else t.ns a)+1
  by_cases e:p=q
  ·have:=hpt e [a] ⟨a,h1,rfl⟩ a (.head _)
   have o1:uV (.use x)=1:=rfl;rw [if_pos e]
   split<;>omega
  ·rw [if_neg e]
   split
   ·rename_i z;rw [z] at h3;omega
   ·exact h3
theorem WI.count {C:Cs} {w:Wo} {t:Sw} {H:Hp} (h:WI C w t H) {p c:Addr} {sh:Sh} (hr:w.reg p=some sh) (hc:w.D c=some (p,0)) (hn:t.ns p<60) (cA:∀ ps,sh = .row ps->∀ i,t.ns p+1<=t.ms p i) (hpt:∀ dx c fs as,H p=some (.ins (Ub C sh) dx (mf c fs))->zP H sh fs as->∀ a∈as,t.ns p+1<=t.ns a+uV sh):WI C w (t.bV p (t.ns p+1)) (upd H c (.lst (Xd (cnt w.bk sh) (t.ns p+1)))):=by
 refine ⟨fun q sh' hr'=>?_,fun b hb=>?_,h.ow,h.inj⟩
 ·obtain ⟨dx,c',fs,h1,h2,h3,h4,h5,h6,h7,h8⟩:=h.at_ q sh' hr'
  have n1:q≠c:=fun z=>by have:=h1.1;rw [z,hc] at this;cases this
  refine ⟨dx,c',fs,h1,h2,h3,?_,(Yg n1).trans h5,h6,?_,h8.bV hc (Nat.le_succ _) (fun e ps e2=>?_) (fun e as hP=>?_)⟩
  ·show (if q=p then _ else t.ns q)<=60
   split<;>omega
  ·show _=some (HO.lst (Xd _ (if q=p then _ else t.ns q)))
   by_cases e:q=p
   ·subst e
    rw [hr] at hr'
    have:=Option.some.inj hr';subst this;rw [if_pos rfl];rw [h.inj _ _ _ h6 hc,Yd]
   ·rw [if_neg e,Yg fun z=>e (by rw [z,hc] at h6;injection h6 with h6;injection h6 with h6 _;exact h6.symm)]
    exact h7
  ·subst e
   rw [hr] at hr'
   exact cA ps ((Option.some.inj hr').trans e2)
  ·subst e
   rw [hr] at hr'
   cases Option.some.inj hr'
   exact hpt dx c' fs as h5 hP
 ·by_cases e:b=c
  ·rw [e,Yd];intro z;cases z
  ·rw [Yg e];exact h.al b hb
theorem Sub.gJ {C:Cs} {w:Wo} {t:Sw} {H:Hp} (inj:∀ b b' x,w.D b=some x->w.D b'=some x->b=b') {p q y:Addr} {i:Nat} {qs:List Sh} {f:Nat->Int} (hq:w.reg q=some (.row qs)) (hc:w.D y=some (q,i+1)) (hf:f=YD w.bk (qs.drop i)) (hm:t.ms q i<60) (hj:∀ j,i<j->j<=qs.length->t.ms q j=t.ms q i+1):∀ {sh:Sh} {fs:List (Str×V)},w.reg p=some sh->(p=q->∀ (P T:Addr) (as:List Addr) (a:Addr),fs=fR P T->H P=some (.lst (as.map V.ref))->as[i]?=some a->t.ms q i+1<=t.ns a)->Sub C w t H p sh fs->Sub C w (t.gJ q i (t.ms q i+1)) (upd H y (.lst (Xd f (t.ms q i+1)))) p sh fs
 | .w lo span,fs,_,_,h=>h
 | .row ps,fs,hp,hpa,h=>by
  obtain ⟨P,T,dt,L,as,ws,h1,h2,h3,h4,h5,h6,h7,h8,h9,h10,h11,h12⟩:=h;have ne:∀ {b:Addr},w.D b=none->b≠y:=fun e z=>by rw [z,hc] at e;cases e
  refine ⟨P,T,dt,L,as,ws,h1,h2,h3,h4,(Yg (ne h2.1)).trans h5,⟨h6.1,h6.2,fun j a ha=>?_⟩,h7,(Yg (ne h3.1)).trans h8,(Yg (ne h4.1)).trans h9,h10,fun j x hx=>⟨(h11 j x hx).1,?_,?_,?_⟩,h12⟩
  ·show (if p=q/\i<=j then _ else t.ms p j)<=t.ns a
   have h3:=h6.3 j a ha
   split
   ·rename_i e
    obtain ⟨rfl,hij⟩:=e;rw [hq] at hp
    cases Option.some.inj hp
    have hl:=(List.getElem?_eq_some_iff.mp ha).1;have hl2:=h6.1;by_cases e2:j=i
    ·subst e2;exact hpa rfl P T as a h1 h5 ha
    ·rw [<- hj j (by omega) (by omega)];exact h3
   ·exact h3
  ·show t.ns p<=(if p=q/\i<=j then _ else t.ms p j)
   have:=(h11 j x hx).2.1
   split
   ·rename_i e
    obtain ⟨rfl,hij⟩:=e;rw [hq] at hp
    have:=Sh.row.inj (Option.some.inj hp);subst this;have hl:=(List.getElem?_eq_some_iff.mp hx).1;by_cases e2:j=i
    ·subst e2;omega
    ·rw [<- hj j (by omega) (by omega)];exact (h11 j x hx).2.1
   ·exact this
  ·show (if p=q/\i<=j then _ else t.ms p j)<=60
   have:=(h11 j x hx).2.2.1
   split<;>omega
  ·show _=some (HO.lst (Xd _ (if p=q/\i<=j then _ else t.ms p j)))
   by_cases e:p=q/\i<=j
   ·obtain ⟨rfl,hij⟩:=e
    rw [hq] at hp
    have:=Sh.row.inj (Option.some.inj hp);subst this;rw [if_pos ⟨rfl,hij⟩];by_cases e2:j=i
    ·subst e2
     rw [inj _ _ _ (h11 j x hx).1 hc,Yd,hf]
    ·have hl:=(List.getElem?_eq_some_iff.mp hx).1
     rw [Yg fun z=>e2 ?_,<- hj j (by omega) (by omega)]
     ·exact (h11 j x hx).2.2.2
     ·have:=(h11 j x hx).1
      rw [z,hc] at this
      injection this with this
      injection this with t1 t2
      omega
   ·rw [if_neg e,Yg fun z=>e ?_]
    ·exact (h11 j x hx).2.2.2
    ·have:=(h11 j x hx).1
     rw [z,hc] at this
     injection this with this
     injection this with t1 t2
     exact ⟨t1.symm,by omega⟩
 | .pick mk ps,fs,_,_,h=>by
  obtain ⟨M,P,as,h1,h2,h3,h4,h5,h6,h7⟩:=h;have ne:∀ {b:Addr},w.D b=none->b≠y:=fun e z=>by rw [z,hc] at e;cases e
  exact ⟨M,P,as,h1,h2,h3,(Yg (ne h2.1)).trans h4,(Yg (ne h3.1)).trans h5,⟨h6.1,h6.2,h6.3⟩,h7⟩
 | .use x,fs,_,_,h=>h
theorem WI.way {C:Cs} {w:Wo} {t:Sw} {H:Hp} (h:WI C w t H) {q y:Addr} {i:Nat} {qs:List Sh} (hq:w.reg q=some (.row qs)) (hc:w.D y=some (q,i+1)) (hm:t.ms q i<60) (hj:∀ j,i<j->j<=qs.length->t.ms q j=t.ms q i+1) (hpa:∀ a,UO C H q i a->t.ms q i+1<=t.ns a):WI C w (t.gJ q i (t.ms q i+1)) (upd H y (.lst (Xd (YD w.bk (qs.drop i)) (t.ms q i+1)))):=by
 refine ⟨fun p sh hp=>?_,fun b hb=>?_,h.ow,h.inj⟩
 ·obtain ⟨dx,c,fs,h1,h2,h3,h4,h5,h6,h7,h8⟩:=h.at_ p sh hp
  have n1:p≠y:=fun z=>by have:=h1.1;rw [z,hc] at this;cases this
  have n2:c≠y:=fun z=>by rw [z,hc] at h6;injection h6 with h6;injection h6 with _ h6;omega
  exact ⟨dx,c,fs,h1,h2,h3,h4,(Yg n1).trans h5,h6,(Yg n2).trans h7,h8.gJ h.inj hq hc rfl hm hj hp fun e P T as a e1 e2 e3=>hpa a ⟨dx,c,P,T,as,by subst e;rw [hq] at hp;cases Option.some.inj hp;rw [<- e1];exact h5,e2,e3⟩⟩
 ·by_cases e:b=y
  ·rw [e,Yd];intro z;cases z
  ·rw [Yg e];exact h.al b hb
def bnd (s d:Nat) (sh:Sh):Nat:=if dep sh<d then s+1 else s
def fZ (t:Sw) (p:Addr):Prop:=∀ i,t.ms p i=t.ms p 0
structure fG (t t':Sw) (p:Addr) (b:Nat):Prop where
 up:t.ns p<=t'.ns p
 le:t'.ns p<=max (t.ns p) b
 no:b<=t.ns p->t'.ms p=t.ms p
 un:fZ t p->fZ t' p
theorem fG.refl (t:Sw) (p:Addr) (b:Nat):fG t t p b:=⟨Nat.le_refl _,Nat.le_max_left _ _,fun _=>rfl,fun h=>h⟩
theorem fG.trans {t t1 t2:Sw} {p:Addr} {b:Nat} (a:fG t t1 p b) (c:fG t1 t2 p b):fG t t2 p b:=by
 have h1:=a.up;have h2:=c.up;have h3:=a.le;have h4:=c.le;exact ⟨by omega,by omega,fun h=>by rw [c.no (by omega),a.no h],fun h=>c.un (a.un h)⟩
theorem fG.mono {t t1:Sw} {p:Addr} {b b':Nat} (a:fG t t1 p b) (h:b<=b'):fG t t1 p b':=⟨a.up,by have:=a.le;omega,fun z=>a.no (by omega),a.un⟩
theorem Iv {s d s' d':Nat} (h:s'<s\/(s'=s/\d'<=d)) (sh:Sh):bnd s' d' sh<=bnd s d sh:=by
 unfold bnd
 split<;>split<;>omega
def Fr (w:Wo) (H H':Hp):Prop:=∀ b o,w.D b=none->H b=some o->H' b=some o
structure Tr (C:Cs) (w:Wo) (t:Sw) (H:Hp) (t':Sw) (H':Hp) (s d:Nat):Prop where
 wi:WI C w t' H'
 fr:Fr w H H'
 gr:∀ p sh,w.reg p=some sh->fG t t' p (bnd s d sh)
 u1:∀ b,t.U b->t'.U b
 u2:∀ b,t'.U b->t.U b\/H b=none
def Xa (w:Wo) (t:Sw) (s d:Nat):Prop:=∀ p sh,w.reg p=some sh->t.ns p<bnd s d sh->fZ t p
theorem Xa.mono {w:Wo} {t:Sw} {s d s' d':Nat} (h:Xa w t s d) (c:s'<s\/(s'=s/\d'<=d)):Xa w t s' d':=fun p sh hr hn=>h p sh hr (Nat.lt_of_lt_of_le hn (Iv c sh))
theorem Tr.refl {C:Cs} {w:Wo} {t:Sw} {H:Hp} (h:WI C w t H) (s d:Nat):Tr C w t H t H s d:=⟨h,fun _ _ _ e=>e,fun p sh _ => .refl _ _ _,fun _ h=>h,fun _ h => .inl h⟩
theorem Tr.alloc {C:Cs} {w:Wo} {t t':Sw} {H H':Hp} {s d:Nat} (T:Tr C w t H t' H' s d) {b:Addr} {o:HO} (h:H b=some o):H' b≠none:=by
 cases e:w.D b with
 | none=>rw [T.fr b o e h];intro z;cases z
 | some x=>exact T.wi.al b (T.wi.ow b x e)
theorem Tr.trans {C:Cs} {w:Wo} {t t1 t2:Sw} {H H1 H2:Hp} {s d:Nat} (a:Tr C w t H t1 H1 s d) (b:Tr C w t1 H1 t2 H2 s d):Tr C w t H t2 H2 s d :=
 ⟨b.wi,fun c o e h=>b.fr c o e (a.fr c o e h),fun p sh hr=>(a.gr p sh hr).trans (b.gr p sh hr),fun c h=>b.u1 c (a.u1 c h),fun c h=>by
  rcases b.u2 c h with h | h
  ·exact a.u2 c h
  ·cases e:H c with
   | none=>exact .inr rfl
   | some o=>exact absurd h (a.alloc e)⟩
theorem Tr.mono {C:Cs} {w:Wo} {t t1:Sw} {H H1:Hp} {s d s' d':Nat} (a:Tr C w t H t1 H1 s' d') (c:s'<s\/(s'=s/\d'<=d)):Tr C w t H t1 H1 s d:=⟨a.wi,a.fr,fun p sh hr=>(a.gr p sh hr).mono (Iv c sh),a.u1,a.u2⟩
theorem Tr.same {C:Cs} {w:Wo} {t t1:Sw} {H H1 H2:Hp} {s d:Nat} (a:Tr C w t H t1 H1 s d) (b:Yj H1 H2):Tr C w t H t1 H2 s d:=⟨a.wi.same b,fun c o e h=>b _ _ (a.fr c o e h),a.gr,a.u1,a.u2⟩
theorem Tr.put {C:Cs} {w:Wo} {t t1:Sw} {H H1:Hp} {s d:Nat} (a:Tr C w t H t1 H1 s d) {x:Addr} (h:H x=none) (n:¬ t1.U x) (o:HO):Tr C w t H t1 (upd H1 x o) s d:=⟨a.wi.loc n o,fun c u e z=>by rw [Yg (Yt z h)];exact a.fr c u e z,a.gr,a.u1,a.u2⟩
theorem Tr.ready {C:Cs} {w:Wo} {t t1:Sw} {H H1:Hp} {s d s' d':Nat} (a:Tr C w t H t1 H1 s' d') (r:Xa w t s d):Xa w t1 s d:=fun p sh hr hn=>(a.gr p sh hr).un (r p sh hr (Nat.lt_of_le_of_lt (a.gr p sh hr).up hn))
theorem Tr.ours {C:Cs} {w:Wo} {t t1:Sw} {H H1:Hp} {s d:Nat} (a:Tr C w t H t1 H1 s d) {x:Addr} {o:HO} (n:¬ t.U x) (h:H x=some o):¬ t1.U x:=fun z=>by
 rcases a.u2 x z with z | z
 ·exact n z
 ·rw [h] at z;cases z
structure cT (C:Cs) (w:Wo) (t:Sw) (H:Hp) (t':Sw) (H':Hp) (s d:Nat) (p:Addr):Prop where
 wi:WI C w t' H'
 fr:Fr w H H'
 gr:∀ q sh,w.reg q=some sh->q≠p->fG t t' q (bnd s d sh)
 own:t'.ns p=t.ns p
 u1:∀ b,t.U b->t'.U b
 u2:∀ b,t'.U b->t.U b\/H b=none
theorem Tr.b {C:Cs} {w:Wo} {t t':Sw} {H H':Hp} {s d:Nat} {p:Addr} (T:Tr C w t H t' H' s d) (h:t'.ns p=t.ns p):cT C w t H t' H' s d p:=⟨T.wi,T.fr,fun q sh hq _=>T.gr q sh hq,h,T.u1,T.u2⟩
theorem cT.trans {C:Cs} {w:Wo} {t t1 t2:Sw} {H H1 H2:Hp} {s d:Nat} {p:Addr} (a:cT C w t H t1 H1 s d p) (b:cT C w t1 H1 t2 H2 s d p):cT C w t H t2 H2 s d p :=
 ⟨b.wi,fun c o e h=>b.fr c o e (a.fr c o e h),fun q sh hr n=>(a.gr q sh hr n).trans (b.gr q sh hr n),b.own.trans a.own,fun c h=>b.u1 c (a.u1 c h),fun c h=>by
  rcases b.u2 c h with h | h
  ·exact a.u2 c h
  ·cases e:H c with
   | none=>exact .inr rfl
   | some o =>
    exfalso
    cases e2:w.D c with
    | none=>rw [a.fr c o e2 e] at h;cases h
    | some x=>exact a.wi.al c (a.wi.ow c x e2) h⟩
theorem cT.same {C:Cs} {w:Wo} {t t1:Sw} {H H1 H2:Hp} {s d:Nat} {p:Addr} (a:cT C w t H t1 H1 s d p) (b:Yj H1 H2):cT C w t H t1 H2 s d p:=⟨a.wi.same b,fun c o e h=>b _ _ (a.fr c o e h),a.gr,a.own,a.u1,a.u2⟩
theorem cT.ready {C:Cs} {w:Wo} {t t1:Sw} {H H1:Hp} {s d s' d':Nat} {p:Addr} {sh:Sh} (a:cT C w t H t1 H1 s' d' p) (hg:w.reg p=some sh) (hb:bnd s d sh<=t.ns p) (r:Xa w t s d):Xa w t1 s d:=fun q sh' hr hn=>by
 by_cases e:q=p
 ·subst e
  rw [hg] at hr
  have:=Option.some.inj hr;subst this;have:=a.own;omega
 ·exact (a.gr q sh' hr e).un (r q sh' hr (Nat.lt_of_le_of_lt (a.gr q sh' hr e).up hn))
theorem cT.way {C:Cs} {w:Wo} {t t1:Sw} {H H1:Hp} {s d i:Nat} {p y:Addr} {ps:List Sh} (a:cT C w t H t1 H1 s d p) (hg:w.reg p=some (.row ps)) (hc:w.D y=some (p,i+1)) (hi:t1.ms p i=s) (hs:s<60) (hj:∀ j,i<j->j<=ps.length->t1.ms p j=s+1) (hpa:∀ a,UO C H1 p i a->s+1<=t1.ns a):cT C w t H (t1.gJ p i (s+1)) (upd H1 y (.lst (Xd (YD w.bk (ps.drop i)) (s+1)))) s d p:=by
 have W:=a.wi.way hg hc (by omega) (fun j h1 h2=>by rw [hi];exact hj j h1 h2) (fun a ha=>by rw [hi];exact hpa a ha);rw [hi] at W
 refine ⟨W,fun b o e h=>?_,fun q sh hq n=>?_,a.own,a.u1,a.u2⟩
 ·rw [Yg fun z=>by rw [z,hc] at e;cases e]
  exact a.fr b o e h
 ·have g:=a.gr q sh hq n
  have e:(t1.gJ p i (s+1)).ms q=t1.ms q:=by
   funext j
   exact if_neg fun z=>n z.1
  exact ⟨g.up,g.le,fun h=>by rw [e];exact g.no h,fun h j=>by rw [e];exact g.un h j⟩
theorem cT.to {C:Cs} {w:Wo} {t t1:Sw} {H H1:Hp} {s d:Nat} {p:Addr} {sh:Sh} (a:cT C w t H t1 H1 s d p) (hg:w.reg p=some sh) (hd:dep sh<d) (hn:t.ns p<=s) (hu:fZ t1 p):Tr C w t H t1 H1 s d:=by
 refine ⟨a.wi,a.fr,fun q sh' hq=>?_,a.u1,a.u2⟩;by_cases e:q=p
 ·subst e
  rw [hg] at hq
  have:=Option.some.inj hq;subst this;have eb:bnd s d sh=s+1:=if_pos hd;rw [eb];have:=a.own;exact ⟨by omega,by omega,fun z=>by omega,fun _=>hu⟩
 ·exact a.gr q sh' hq e
def kind:Sh->Nat
 | .w _ _=>0
 | .row _=>2
 | .pick _ _=>3
 | .use _=>5
def isF (m:Str):Bool:=(m==("counts":Str))||(m==("low":Str))||(m==("span":Str))||(m==("signs":Str))||(m==("parts":Str))||(m==("table":Str))||(m==("ways":Str))||(m==("marks":Str))||(m==("part":Str))||(m==("named":Str))
theorem Iw {m:Str} (h:isF m=false):(m==("counts":Str))=false/\(m==("low":Str))=false/\(m==("span":Str))=false/\(m==("signs":Str))=false/\(m==("parts":Str))=false/\(m==("table":Str))=false/\(m==("ways":Str))=false/\(m==("marks":Str))=false/\(m==("part":Str))=false/\(m==("named":Str))=false:=by
 unfold isF at h;simp only [Bool.or_eq_false_iff] at h;obtain ⟨⟨⟨⟨⟨⟨⟨⟨⟨a,b⟩,c⟩,d⟩,e⟩,f⟩,g⟩,i⟩,j⟩,k⟩:=h;exact ⟨a,b,c,d,e,f,g,i,j,k⟩
theorem YJ (c:Addr) (fs:List (Str×V)):(mf c fs).lookup ("counts":Str)=some (.ref c):=rfl
theorem WS {C:Cs} {w:Wo} {t:Sw} {H:Hp} {p c:Addr} {m:Str} (hm:isF m=false):∀ {sh:Sh} {fs:List (Str×V)},Sub C w t H p sh fs->(mf c fs).lookup m=none:=by
 obtain ⟨a1,a2,a3,a4,a5,a6,a7,a8,a9,a10⟩:=Iw hm;intro sh fs h;unfold mf;rw [List.lookup_cons,a1]
 cases sh with
 | w lo span =>
  have h:fs=_:=h;subst h;unfold fW;rw [List.lookup_cons,a2,List.lookup_cons,a3];rfl
 | row ps =>
  obtain ⟨P,T,dt,L,as,ws,rfl,_⟩:=h;unfold fR;rw [List.lookup_cons,a5,List.lookup_cons,a6];rfl
 | pick mk ps =>
  obtain ⟨M,P,as,rfl,_⟩:=h;unfold fP;rw [List.lookup_cons,a8,List.lookup_cons,a5];rfl
 | use x =>
  obtain ⟨a,rfl,_⟩:=h;unfold fU;rw [List.lookup_cons,a10];rfl
def fu (w:Wo) (s d:Nat):Nat:=5*(s*(w.M+1)+d)
theorem QV {w:Wo} {s d s' d':Nat} (hd:d'<=w.M) (h:s'<s\/(s'=s/\d'<d)):fu w s' d'+5<=fu w s d:=by
 unfold fu;rcases h with h | ⟨rfl,h⟩
 ·have:=Nat.mul_le_mul_right (w.M+1) (show s'+1<=s from h)
  rw [Nat.add_mul] at this
  omega
 ·omega
inductive Zo (C:Cs) (k l:Nat) (vs:List V) (H:Hp) (Q:VK) (E_:XK):Prop
 | mk (w:Wo) (t:Sw) (p:Addr) (sh:Sh) (s:Nat) (h0:vs=[.ref p,.int s]) (h1:kind sh=k) (h2:WI C w t H) (h3:w.reg p=some sh) (h4:1<=l) (h5:s<=40) (h6:(s<t.ns p->Q (.int (cnt w.bk sh s)) H)) (h7:(t.ns p<=s->fu w s (dep sh)+5<=l/\Xa w t s (dep sh+1)/\∀ t' H',Tr C w t H t' H' s (dep sh+1)->t'.ns p=s+1->Q (.int (cnt w.bk sh s)) H'))
def zQ (C:Cs) (t:Sw) (H:Hp) (p:Addr) (sh:Sh) (n:Nat):Prop:=∀ dx c fs as,H p=some (.ins (Ub C sh) dx (mf c fs))->zP H sh fs as->∀ a∈as,n<=t.ns a+uV sh
inductive bx (C:Cs) (k l:Nat) (vs:List V) (H:Hp) (Q:VK) (E_:XK):Prop
 | mk (w:Wo) (t:Sw) (p:Addr) (sh:Sh) (s:Nat) (h0:vs=[.ref p,.int s]) (h1:kind sh=k) (h2:WI C w t H) (h3:w.reg p=some sh) (h4:t.ns p=s) (h5:s<=40) (h6:fu w s (dep sh)+4<=l) (h7:Xa w t s (dep sh+1)) (h8:∀ t' H',Tr C w t H t' H' s (dep sh+1)->t'.ns p=s->(∀ ps,sh = .row ps->∀ i,s+1<=t'.ms p i)->zQ C t' H' p sh (s+1)->Q (.int (cnt w.bk sh s)) H')
theorem eY {C:Cs} {k:Nat} {vs:List V} {H:Hp} {Q:VK} {E:XK} (h:Zo C k 0 vs H Q E):False:=by
 obtain ⟨w,t,p,sh,s,_,_,_,_,h,_⟩:=h;omega
theorem UP {C:Cs} {k:Nat} {vs:List V} {H:Hp} {Q:VK} {E:XK} (h:bx C k 0 vs H Q E):False:=by
 obtain ⟨w,t,p,sh,s,_,_,_,_,_,_,h,_⟩:=h;omega
theorem Tr.own {C:Cs} {w:Wo} {t t':Sw} {H H':Hp} {s d:Nat} (T:Tr C w t H t' H' s d) {p:Addr} {sh:Sh} (hr:w.reg p=some sh) (hd:d<=dep sh) (hs:s<=t.ns p):t'.ns p=t.ns p/\t'.ms p=t.ms p:=by
 have g:=T.gr p sh hr;have e:bnd s d sh=s:=if_neg (by omega);rw [e] at g
 have h1:=g.up;have h2:=g.le;exact ⟨by omega,g.no hs⟩
theorem Tr.count {C:Cs} {w:Wo} {t t':Sw} {H H':Hp} {s j:Nat} {sh:Sh} {p c:Addr} (T:Tr C w t H t' H' s (dep sh+1)) (hr:w.reg p=some sh) (hc:w.D c=some (p,0)) (hj:t'.ns p=j) (hjs:j<=s) (hs:s<=40) (cA:∀ ps,sh = .row ps->∀ i,j+1<=t'.ms p i) (hpt:zQ C t' H' p sh (j+1)):Tr C w t H (t'.bV p (j+1)) (upd H' c (.lst (Xd (cnt w.bk sh) (j+1)))) s (dep sh+1):=by
 subst hj;refine ⟨T.wi.count hr hc (by omega) cA hpt,fun b o e h=>?_,fun q sh' hq=>?_,T.u1,T.u2⟩
 ·rw [Yg fun z=>by rw [z,hc] at e;cases e]
  exact T.fr b o e h
 ·have g:=T.gr q sh' hq
  by_cases e:q=p
  ·subst e
   rw [hr] at hq
   have:=Option.some.inj hq;subst this;have eb:bnd s (dep sh+1) sh=s+1:=if_pos (by omega);rw [eb] at g ⊢
   have h1:=g.up;have en:(t'.bV q (t'.ns q+1)).ns q=t'.ns q+1:=if_pos rfl;exact ⟨by rw [en];omega,by rw [en];omega,fun h=>by omega,g.un⟩
  ·have en:(t'.bV p (t'.ns p+1)).ns q=t'.ns q:=if_neg e
   exact ⟨by rw [en];exact g.up,by rw [en];exact g.le,g.no,g.un⟩
variable {m:Nat}
theorem Qy {w:Wo} {s d s':Nat} (h:s'<=s):fu w s' d<=fu w s d:=by
 unfold fu;have:=Nat.mul_le_mul_right (w.M+1) h;omega
theorem Iz {k:Nat} {Z6 Z5 Z1 Z2 Z4 Z3 Z0:Addr} (R:g.aO Z0 "count_at" "Maker.count_at" zL ["self","size"]) (Z34:g.Me k Z0 "reckoned" ["self","size"] (bx (Cs.mk Z0 Z2 Z4 Z1 Z3) 0 m)) (aF:g.mg "len"=none) (Z8:Cls g.K Z0) (Z7:Yc g.K Z0 "counts") (Zf:Yc g.K Z0 "low") (Zd:Yc g.K Z0 "span"):g.Me (k+1) Z0 "count_at" ["self","size"] (Zo (Cs.mk Z0 Z2 Z4 Z1 Z3) 0 (m+1)):=by
 refine R.me Z2T (fun vs H Q E h=>by obtain ⟨w,t,p,sh,sz,rfl,hk,W,hg,hl,hs,q1,q2⟩:=h;rfl) fun f_ cdv A outer s H vs Q E hr h=>?_
 obtain ⟨w,t,p,sh,sz,rfl,hk,W,hg,hl,hs,q1,q2⟩:=h;refine ⟨_,(@Ye _ _ _ _ _ (@Wy _ _ _ _ _ _ PassesOwn.never (@Yl _ _ _ _ _ _ _ _ WH (@YS _ _ _ _ _ _ _ _ _ _ aF YH (@Ya _ _ _ _ _ (@YB _ _ _ _ _ (pv 0) rfl) Yb (by rfl)) (by decide +kernel) (by rfl) (by rfl) (by decide) (by decide) (by rfl) (by rfl)) (pv 1) (Yn _)) (@Yf _ _ _ (@Xb _ _ _ _ (@Vv _ _ _ _ _ _ _ _ _ _ _ _ PySem.F.plainAttrs_list PySem.F.slot_list_append PySem.F.type_list_append Xu (@YB _ _ _ _ _ (pv 0) rfl) (@Ya _ _ _ _ _ (@XA _ _ _ _ _ _ _ _ _ _ _ _ _ _ _ _ Z34 Z8 hr (pv 0) (@Ya _ _ _ _ _ (@YS _ _ _ _ _ _ _ _ _ _ aF YH (@Ya _ _ _ _ _ (@YB _ _ _ _ _ (pv 0) rfl) Yb (by rfl)) (by decide +kernel) (by rfl) (by rfl) (by decide) (by decide) (by rfl) (by rfl)) Yb (by rfl)) (by omega) (by rfl) (by rfl) (by rfl) (by rfl)) Yb (by rfl)) (by rfl) (by rfl) (by rfl) (by rfl) (by rfl)) (by rfl)))) (@Yf _ _ _ (@Ym _ _ _ _ (@Yo _ _ _ _ _ _ _ YL (@YB _ _ _ _ _ (pv 0) rfl) (pv 1) (fun _ _=>rfl))))),?_⟩;walk_at "rd";have hC:Ub (Cs.mk Z0 Z2 Z4 Z1 Z3) sh=Z0:=by cases sh<;>first | rfl | (simp [kind] at hk)
 by_cases cs:sz<t.ns p
 ·obtain ⟨dx,c,fs,hU,hd,hsm,hns,hp,bh,hc,hsub⟩:=W.at_ p sh hg
  rw [hC] at hp
  refine Xq (α:=Unit) (fun x σ H'=>σ=[some (.ref p),some (.int sz)]/\H=H') (fun x=>false) (fun x=>0) () ⟨rfl,rfl⟩ ?_ ?_ ?_
  ·rintro x σ H' ⟨rfl,rfl⟩ R r
   walk_at "rd";refine ⟨_,_,_,hp,Z8,Z7,_,YJ _ _,_,rfl,_,.inl (ao.of hc),?_⟩;rw [YN,dle,decide_eq_false (by omega)];exact r H ⟨rfl,rfl⟩
  ·rintro x σ H' ⟨rfl,rfl⟩ hd
   cases hd
  ·rintro x σ H' ⟨rfl,rfl⟩ hd
   walk_at "rd";exact ⟨_,_,_,hp,Z8,Z7,_,YJ _ _,_,rfl,_,ao.of hc,_,Xs _ cs,q1 cs⟩
 ·obtain ⟨hfu,jA,q⟩:=q2 (by omega)
  refine Xq (α:=Sw) (fun x σ H'=>σ=[some (.ref p),some (.int sz)]/\Tr (Cs.mk Z0 Z2 Z4 Z1 Z3) w t H x H' sz (dep sh+1)/\x.ns p<=sz+1) (fun x=>decide (x.ns p<=sz)) (fun x=>sz+1 - x.ns p) t ⟨rfl,.refl W _ _,by omega⟩ ?_ ?_ ?_
  ·rintro x σ H' ⟨rfl,T,hx⟩ R r
   obtain ⟨dx,c,fs,hU,hd,hsm,hns,hp,bh,hc,hsub⟩:=T.wi.at_ p sh hg;rw [hC] at hp
   walk_at "rd";refine ⟨_,_,_,hp,Z8,Z7,_,YJ _ _,_,rfl,_,.inl (ao.of hc),?_⟩;rw [YN,dle];exact r H' ⟨rfl,T,hx⟩
  ·rintro x σ H' ⟨rfl,T,hx⟩ hd
   have hd:x.ns p<=sz:=of_decide_eq_true hd;obtain ⟨dx,c,fs,hU,hd',hsm,hns,hp,bh,hc,hsub⟩:=T.wi.at_ p sh hg;rw [hC] at hp
   walk_at "rd";refine ⟨_,_,_,hp,Z8,Z7,_,YJ _ _,.inl ⟨rfl,_,ao.of hc⟩,_,_,hp,WS (by decide +kernel) hsub,_,_,_,hp,Z8,Z7,_,YJ _ _,_,rfl,_,.inl (ao.of hc),?_⟩;rw [YN];have hfl:=Qy (w:=w) (d:=dep sh) hd;have hrd:Xa w x (x.ns p) (dep sh+1):=(T.ready jA).mono (by omega);refine ⟨w,x,p,sh,x.ns p,rfl,hk,T.wi,hg,rfl,by omega,by omega,hrd,fun t2 H2 T2 e2 cA hpt=>?_⟩;have T3:=T.trans (T2.mono (by omega));obtain ⟨pQ,c2,uW,f9,hd2,sS,sU,hp2,dH,hc2,hsub2⟩:=T2.wi.at_ p sh hg;have ec:=T2.wi.inj _ _ _ dH bh;subst ec;rw [e2] at hc2
   have T4:=T3.count hg dH e2 hd hs cA hpt;refine ⟨_,rfl,_,hc2,by rw [YN];exact few (by omega),t2.bV p (x.ns p+1),?_,?_,?_⟩
   ·rw [<- XL];exact T4
   ·show (if p=p then _ else _)<=_
    rw [if_pos rfl];omega
   ·show sz+1 - (if p=p then _ else _)<_
    rw [if_pos rfl];omega
  ·rintro x σ H' ⟨rfl,T,hx⟩ hd
   have hd:¬ x.ns p<=sz:=of_decide_eq_false hd;obtain ⟨dx,c,fs,hU,hd',hsm,hns,hp,bh,hc,hsub⟩:=T.wi.at_ p sh hg;rw [hC] at hp
   walk_at "rd";exact ⟨_,_,_,hp,Z8,Z7,_,YJ _ _,_,rfl,_,ao.of hc,_,Xs _ (by omega),q x H' T (by omega)⟩
theorem IK {k:Nat} {Z6 Z5 Z1 Z2 Z4 Z3 Z0:Addr} (R:g.aO Z2 "count_at" "Maker.count_at" zM ["self","size"]) (Z3X:g.Me k Z2 "reckoned" ["self","size"] (bx (Cs.mk Z0 Z2 Z4 Z1 Z3) 2 m)) (aF:g.mg "len"=none) (Zh:Cls g.K Z2) (Zb:Yc g.K Z2 "counts") (Zl:Yc g.K Z2 "parts") (Zk:Yc g.K Z2 "table"):g.Me (k+1) Z2 "count_at" ["self","size"] (Zo (Cs.mk Z0 Z2 Z4 Z1 Z3) 2 (m+1)):=by
 refine R.me Z3s (fun vs H Q E h=>by obtain ⟨w,t,p,sh,sz,rfl,hk,W,hg,hl,hs,q1,q2⟩:=h;rfl) fun f_ cdv A outer s H vs Q E hr h=>?_
 obtain ⟨w,t,p,sh,sz,rfl,hk,W,hg,hl,hs,q1,q2⟩:=h;refine ⟨_,(@Ye _ _ _ _ _ (@Wy _ _ _ _ _ _ PassesOwn.never (@Yl _ _ _ _ _ _ _ _ WH (@YS _ _ _ _ _ _ _ _ _ _ aF YH (@Ya _ _ _ _ _ (@YB _ _ _ _ _ (pv 0) rfl) Yb (by rfl)) (by decide +kernel) (by rfl) (by rfl) (by decide) (by decide) (by rfl) (by rfl)) (pv 1) (Yn _)) (@Yf _ _ _ (@Xb _ _ _ _ (@Vv _ _ _ _ _ _ _ _ _ _ _ _ PySem.F.plainAttrs_list PySem.F.slot_list_append PySem.F.type_list_append Xu (@YB _ _ _ _ _ (pv 0) rfl) (@Ya _ _ _ _ _ (@XA _ _ _ _ _ _ _ _ _ _ _ _ _ _ _ _ Z3X Zh hr (pv 0) (@Ya _ _ _ _ _ (@YS _ _ _ _ _ _ _ _ _ _ aF YH (@Ya _ _ _ _ _ (@YB _ _ _ _ _ (pv 0) rfl) Yb (by rfl)) (by decide +kernel) (by rfl) (by rfl) (by decide) (by decide) (by rfl) (by rfl)) Yb (by rfl)) (by omega) (by rfl) (by rfl) (by rfl) (by rfl)) Yb (by rfl)) (by rfl) (by rfl) (by rfl) (by rfl) (by rfl)) (by rfl)))) (@Yf _ _ _ (@Ym _ _ _ _ (@Yo _ _ _ _ _ _ _ YL (@YB _ _ _ _ _ (pv 0) rfl) (pv 1) (fun _ _=>rfl))))),?_⟩;walk_at "rd";have hC:Ub (Cs.mk Z0 Z2 Z4 Z1 Z3) sh=Z2:=by cases sh<;>first | rfl | (simp [kind] at hk)
 by_cases cs:sz<t.ns p
 ·obtain ⟨dx,c,fs,hU,hd,hsm,hns,hp,bh,hc,hsub⟩:=W.at_ p sh hg
  rw [hC] at hp
  refine Xq (α:=Unit) (fun x σ H'=>σ=[some (.ref p),some (.int sz)]/\H=H') (fun x=>false) (fun x=>0) () ⟨rfl,rfl⟩ ?_ ?_ ?_
  ·rintro x σ H' ⟨rfl,rfl⟩ R r
   walk_at "rd";refine ⟨_,_,_,hp,Zh,Zb,_,YJ _ _,_,rfl,_,.inl (ao.of hc),?_⟩;rw [YN,dle,decide_eq_false (by omega)];exact r H ⟨rfl,rfl⟩
  ·rintro x σ H' ⟨rfl,rfl⟩ hd
   cases hd
  ·rintro x σ H' ⟨rfl,rfl⟩ hd
   walk_at "rd";exact ⟨_,_,_,hp,Zh,Zb,_,YJ _ _,_,rfl,_,ao.of hc,_,Xs _ cs,q1 cs⟩
 ·obtain ⟨hfu,jA,q⟩:=q2 (by omega)
  refine Xq (α:=Sw) (fun x σ H'=>σ=[some (.ref p),some (.int sz)]/\Tr (Cs.mk Z0 Z2 Z4 Z1 Z3) w t H x H' sz (dep sh+1)/\x.ns p<=sz+1) (fun x=>decide (x.ns p<=sz)) (fun x=>sz+1 - x.ns p) t ⟨rfl,.refl W _ _,by omega⟩ ?_ ?_ ?_
  ·rintro x σ H' ⟨rfl,T,hx⟩ R r
   obtain ⟨dx,c,fs,hU,hd,hsm,hns,hp,bh,hc,hsub⟩:=T.wi.at_ p sh hg;rw [hC] at hp
   walk_at "rd";refine ⟨_,_,_,hp,Zh,Zb,_,YJ _ _,_,rfl,_,.inl (ao.of hc),?_⟩;rw [YN,dle];exact r H' ⟨rfl,T,hx⟩
  ·rintro x σ H' ⟨rfl,T,hx⟩ hd
   have hd:x.ns p<=sz:=of_decide_eq_true hd;obtain ⟨dx,c,fs,hU,hd',hsm,hns,hp,bh,hc,hsub⟩:=T.wi.at_ p sh hg;rw [hC] at hp
   walk_at "rd";refine ⟨_,_,_,hp,Zh,Zb,_,YJ _ _,.inl ⟨rfl,_,ao.of hc⟩,_,_,hp,WS (by decide +kernel) hsub,_,_,_,hp,Zh,Zb,_,YJ _ _,_,rfl,_,.inl (ao.of hc),?_⟩;rw [YN];have hfl:=Qy (w:=w) (d:=dep sh) hd;have hrd:Xa w x (x.ns p) (dep sh+1):=(T.ready jA).mono (by omega);refine ⟨w,x,p,sh,x.ns p,rfl,hk,T.wi,hg,rfl,by omega,by omega,hrd,fun t2 H2 T2 e2 cA hpt=>?_⟩;have T3:=T.trans (T2.mono (by omega));obtain ⟨pQ,c2,uW,f9,hd2,sS,sU,hp2,dH,hc2,hsub2⟩:=T2.wi.at_ p sh hg;have ec:=T2.wi.inj _ _ _ dH bh;subst ec;rw [e2] at hc2
   have T4:=T3.count hg dH e2 hd hs cA hpt;refine ⟨_,rfl,_,hc2,by rw [YN];exact few (by omega),t2.bV p (x.ns p+1),?_,?_,?_⟩
   ·rw [<- XL];exact T4
   ·show (if p=p then _ else _)<=_
    rw [if_pos rfl];omega
   ·show sz+1 - (if p=p then _ else _)<_
    rw [if_pos rfl];omega
  ·rintro x σ H' ⟨rfl,T,hx⟩ hd
   have hd:¬ x.ns p<=sz:=of_decide_eq_false hd;obtain ⟨dx,c,fs,hU,hd',hsm,hns,hp,bh,hc,hsub⟩:=T.wi.at_ p sh hg;rw [hC] at hp
   walk_at "rd";exact ⟨_,_,_,hp,Zh,Zb,_,YJ _ _,_,rfl,_,ao.of hc,_,Xs _ (by omega),q x H' T (by omega)⟩
theorem IV {k:Nat} {Z6 Z5 Z1 Z2 Z4 Z3 Z0:Addr} (R:g.aO Z1 "count_at" "Maker.count_at" zN ["self","size"]) (Z3u:g.Me k Z1 "reckoned" ["self","size"] (bx (Cs.mk Z0 Z2 Z4 Z1 Z3) 3 m)) (aF:g.mg "len"=none) (Za:Cls g.K Z1) (Z9:Yc g.K Z1 "counts") (Zg:Yc g.K Z1 "marks") (Ze:Yc g.K Z1 "parts"):g.Me (k+1) Z1 "count_at" ["self","size"] (Zo (Cs.mk Z0 Z2 Z4 Z1 Z3) 3 (m+1)):=by
 refine R.me Z33 (fun vs H Q E h=>by obtain ⟨w,t,p,sh,sz,rfl,hk,W,hg,hl,hs,q1,q2⟩:=h;rfl) fun f_ cdv A outer s H vs Q E hr h=>?_
 obtain ⟨w,t,p,sh,sz,rfl,hk,W,hg,hl,hs,q1,q2⟩:=h;refine ⟨_,(@Ye _ _ _ _ _ (@Wy _ _ _ _ _ _ PassesOwn.never (@Yl _ _ _ _ _ _ _ _ WH (@YS _ _ _ _ _ _ _ _ _ _ aF YH (@Ya _ _ _ _ _ (@YB _ _ _ _ _ (pv 0) rfl) Yb (by rfl)) (by decide +kernel) (by rfl) (by rfl) (by decide) (by decide) (by rfl) (by rfl)) (pv 1) (Yn _)) (@Yf _ _ _ (@Xb _ _ _ _ (@Vv _ _ _ _ _ _ _ _ _ _ _ _ PySem.F.plainAttrs_list PySem.F.slot_list_append PySem.F.type_list_append Xu (@YB _ _ _ _ _ (pv 0) rfl) (@Ya _ _ _ _ _ (@XA _ _ _ _ _ _ _ _ _ _ _ _ _ _ _ _ Z3u Za hr (pv 0) (@Ya _ _ _ _ _ (@YS _ _ _ _ _ _ _ _ _ _ aF YH (@Ya _ _ _ _ _ (@YB _ _ _ _ _ (pv 0) rfl) Yb (by rfl)) (by decide +kernel) (by rfl) (by rfl) (by decide) (by decide) (by rfl) (by rfl)) Yb (by rfl)) (by omega) (by rfl) (by rfl) (by rfl) (by rfl)) Yb (by rfl)) (by rfl) (by rfl) (by rfl) (by rfl) (by rfl)) (by rfl)))) (@Yf _ _ _ (@Ym _ _ _ _ (@Yo _ _ _ _ _ _ _ YL (@YB _ _ _ _ _ (pv 0) rfl) (pv 1) (fun _ _=>rfl))))),?_⟩;walk_at "rd";have hC:Ub (Cs.mk Z0 Z2 Z4 Z1 Z3) sh=Z1:=by cases sh<;>first | rfl | (simp [kind] at hk)
 by_cases cs:sz<t.ns p
 ·obtain ⟨dx,c,fs,hU,hd,hsm,hns,hp,bh,hc,hsub⟩:=W.at_ p sh hg
  rw [hC] at hp
  refine Xq (α:=Unit) (fun x σ H'=>σ=[some (.ref p),some (.int sz)]/\H=H') (fun x=>false) (fun x=>0) () ⟨rfl,rfl⟩ ?_ ?_ ?_
  ·rintro x σ H' ⟨rfl,rfl⟩ R r
   walk_at "rd";refine ⟨_,_,_,hp,Za,Z9,_,YJ _ _,_,rfl,_,.inl (ao.of hc),?_⟩;rw [YN,dle,decide_eq_false (by omega)];exact r H ⟨rfl,rfl⟩
  ·rintro x σ H' ⟨rfl,rfl⟩ hd
   cases hd
  ·rintro x σ H' ⟨rfl,rfl⟩ hd
   walk_at "rd";exact ⟨_,_,_,hp,Za,Z9,_,YJ _ _,_,rfl,_,ao.of hc,_,Xs _ cs,q1 cs⟩
 ·obtain ⟨hfu,jA,q⟩:=q2 (by omega)
  refine Xq (α:=Sw) (fun x σ H'=>σ=[some (.ref p),some (.int sz)]/\Tr (Cs.mk Z0 Z2 Z4 Z1 Z3) w t H x H' sz (dep sh+1)/\x.ns p<=sz+1) (fun x=>decide (x.ns p<=sz)) (fun x=>sz+1 - x.ns p) t ⟨rfl,.refl W _ _,by omega⟩ ?_ ?_ ?_
  ·rintro x σ H' ⟨rfl,T,hx⟩ R r
   obtain ⟨dx,c,fs,hU,hd,hsm,hns,hp,bh,hc,hsub⟩:=T.wi.at_ p sh hg;rw [hC] at hp
   walk_at "rd";refine ⟨_,_,_,hp,Za,Z9,_,YJ _ _,_,rfl,_,.inl (ao.of hc),?_⟩;rw [YN,dle];exact r H' ⟨rfl,T,hx⟩
  ·rintro x σ H' ⟨rfl,T,hx⟩ hd
   have hd:x.ns p<=sz:=of_decide_eq_true hd;obtain ⟨dx,c,fs,hU,hd',hsm,hns,hp,bh,hc,hsub⟩:=T.wi.at_ p sh hg;rw [hC] at hp
   walk_at "rd";refine ⟨_,_,_,hp,Za,Z9,_,YJ _ _,.inl ⟨rfl,_,ao.of hc⟩,_,_,hp,WS (by decide +kernel) hsub,_,_,_,hp,Za,Z9,_,YJ _ _,_,rfl,_,.inl (ao.of hc),?_⟩;rw [YN];have hfl:=Qy (w:=w) (d:=dep sh) hd;have hrd:Xa w x (x.ns p) (dep sh+1):=(T.ready jA).mono (by omega);refine ⟨w,x,p,sh,x.ns p,rfl,hk,T.wi,hg,rfl,by omega,by omega,hrd,fun t2 H2 T2 e2 cA hpt=>?_⟩;have T3:=T.trans (T2.mono (by omega));obtain ⟨pQ,c2,uW,f9,hd2,sS,sU,hp2,dH,hc2,hsub2⟩:=T2.wi.at_ p sh hg;have ec:=T2.wi.inj _ _ _ dH bh;subst ec;rw [e2] at hc2
   have T4:=T3.count hg dH e2 hd hs cA hpt;refine ⟨_,rfl,_,hc2,by rw [YN];exact few (by omega),t2.bV p (x.ns p+1),?_,?_,?_⟩
   ·rw [<- XL];exact T4
   ·show (if p=p then _ else _)<=_
    rw [if_pos rfl];omega
   ·show sz+1 - (if p=p then _ else _)<_
    rw [if_pos rfl];omega
  ·rintro x σ H' ⟨rfl,T,hx⟩ hd
   have hd:¬ x.ns p<=sz:=of_decide_eq_false hd;obtain ⟨dx,c,fs,hU,hd',hsm,hns,hp,bh,hc,hsub⟩:=T.wi.at_ p sh hg;rw [hC] at hp
   walk_at "rd";exact ⟨_,_,_,hp,Za,Z9,_,YJ _ _,_,rfl,_,ao.of hc,_,Xs _ (by omega),q x H' T (by omega)⟩
theorem IW {k:Nat} {Z6 Z5 Z1 Z2 Z4 Z3 Z0:Addr} (R:g.aO Z3 "count_at" "Maker.count_at" zO ["self","size"]) (Z3Y:g.Me k Z3 "reckoned" ["self","size"] (bx (Cs.mk Z0 Z2 Z4 Z1 Z3) 5 m)) (aF:g.mg "len"=none) (Zj:Cls g.K Z3) (Zc:Yc g.K Z3 "counts") (Zi:Yc g.K Z3 "named"):g.Me (k+1) Z3 "count_at" ["self","size"] (Zo (Cs.mk Z0 Z2 Z4 Z1 Z3) 5 (m+1)):=by
 refine R.me Z3t (fun vs H Q E h=>by obtain ⟨w,t,p,sh,sz,rfl,hk,W,hg,hl,hs,q1,q2⟩:=h;rfl) fun f_ cdv A outer s H vs Q E hr h=>?_
 obtain ⟨w,t,p,sh,sz,rfl,hk,W,hg,hl,hs,q1,q2⟩:=h;refine ⟨_,(@Ye _ _ _ _ _ (@Wy _ _ _ _ _ _ PassesOwn.never (@Yl _ _ _ _ _ _ _ _ WH (@YS _ _ _ _ _ _ _ _ _ _ aF YH (@Ya _ _ _ _ _ (@YB _ _ _ _ _ (pv 0) rfl) Yb (by rfl)) (by decide +kernel) (by rfl) (by rfl) (by decide) (by decide) (by rfl) (by rfl)) (pv 1) (Yn _)) (@Yf _ _ _ (@Xb _ _ _ _ (@Vv _ _ _ _ _ _ _ _ _ _ _ _ PySem.F.plainAttrs_list PySem.F.slot_list_append PySem.F.type_list_append Xu (@YB _ _ _ _ _ (pv 0) rfl) (@Ya _ _ _ _ _ (@XA _ _ _ _ _ _ _ _ _ _ _ _ _ _ _ _ Z3Y Zj hr (pv 0) (@Ya _ _ _ _ _ (@YS _ _ _ _ _ _ _ _ _ _ aF YH (@Ya _ _ _ _ _ (@YB _ _ _ _ _ (pv 0) rfl) Yb (by rfl)) (by decide +kernel) (by rfl) (by rfl) (by decide) (by decide) (by rfl) (by rfl)) Yb (by rfl)) (by omega) (by rfl) (by rfl) (by rfl) (by rfl)) Yb (by rfl)) (by rfl) (by rfl) (by rfl) (by rfl) (by rfl)) (by rfl)))) (@Yf _ _ _ (@Ym _ _ _ _ (@Yo _ _ _ _ _ _ _ YL (@YB _ _ _ _ _ (pv 0) rfl) (pv 1) (fun _ _=>rfl))))),?_⟩;walk_at "rd";have hC:Ub (Cs.mk Z0 Z2 Z4 Z1 Z3) sh=Z3:=by cases sh<;>first | rfl | (simp [kind] at hk)
 by_cases cs:sz<t.ns p
 ·obtain ⟨dx,c,fs,hU,hd,hsm,hns,hp,bh,hc,hsub⟩:=W.at_ p sh hg
  rw [hC] at hp
  refine Xq (α:=Unit) (fun x σ H'=>σ=[some (.ref p),some (.int sz)]/\H=H') (fun x=>false) (fun x=>0) () ⟨rfl,rfl⟩ ?_ ?_ ?_
  ·rintro x σ H' ⟨rfl,rfl⟩ R r
   walk_at "rd";refine ⟨_,_,_,hp,Zj,Zc,_,YJ _ _,_,rfl,_,.inl (ao.of hc),?_⟩;rw [YN,dle,decide_eq_false (by omega)];exact r H ⟨rfl,rfl⟩
  ·rintro x σ H' ⟨rfl,rfl⟩ hd
   cases hd
  ·rintro x σ H' ⟨rfl,rfl⟩ hd
   walk_at "rd";exact ⟨_,_,_,hp,Zj,Zc,_,YJ _ _,_,rfl,_,ao.of hc,_,Xs _ cs,q1 cs⟩
 ·obtain ⟨hfu,jA,q⟩:=q2 (by omega)
  refine Xq (α:=Sw) (fun x σ H'=>σ=[some (.ref p),some (.int sz)]/\Tr (Cs.mk Z0 Z2 Z4 Z1 Z3) w t H x H' sz (dep sh+1)/\x.ns p<=sz+1) (fun x=>decide (x.ns p<=sz)) (fun x=>sz+1 - x.ns p) t ⟨rfl,.refl W _ _,by omega⟩ ?_ ?_ ?_
  ·rintro x σ H' ⟨rfl,T,hx⟩ R r
   obtain ⟨dx,c,fs,hU,hd,hsm,hns,hp,bh,hc,hsub⟩:=T.wi.at_ p sh hg;rw [hC] at hp
   walk_at "rd";refine ⟨_,_,_,hp,Zj,Zc,_,YJ _ _,_,rfl,_,.inl (ao.of hc),?_⟩;rw [YN,dle];exact r H' ⟨rfl,T,hx⟩
  ·rintro x σ H' ⟨rfl,T,hx⟩ hd
   have hd:x.ns p<=sz:=of_decide_eq_true hd;obtain ⟨dx,c,fs,hU,hd',hsm,hns,hp,bh,hc,hsub⟩:=T.wi.at_ p sh hg;rw [hC] at hp
   walk_at "rd";refine ⟨_,_,_,hp,Zj,Zc,_,YJ _ _,.inl ⟨rfl,_,ao.of hc⟩,_,_,hp,WS (by decide +kernel) hsub,_,_,_,hp,Zj,Zc,_,YJ _ _,_,rfl,_,.inl (ao.of hc),?_⟩;rw [YN];have hfl:=Qy (w:=w) (d:=dep sh) hd;have hrd:Xa w x (x.ns p) (dep sh+1):=(T.ready jA).mono (by omega);refine ⟨w,x,p,sh,x.ns p,rfl,hk,T.wi,hg,rfl,by omega,by omega,hrd,fun t2 H2 T2 e2 cA hpt=>?_⟩;have T3:=T.trans (T2.mono (by omega));obtain ⟨pQ,c2,uW,f9,hd2,sS,sU,hp2,dH,hc2,hsub2⟩:=T2.wi.at_ p sh hg;have ec:=T2.wi.inj _ _ _ dH bh;subst ec;rw [e2] at hc2
   have T4:=T3.count hg dH e2 hd hs cA hpt;refine ⟨_,rfl,_,hc2,by rw [YN];exact few (by omega),t2.bV p (x.ns p+1),?_,?_,?_⟩
   ·rw [<- XL];exact T4
   ·show (if p=p then _ else _)<=_
    rw [if_pos rfl];omega
   ·show sz+1 - (if p=p then _ else _)<_
    rw [if_pos rfl];omega
  ·rintro x σ H' ⟨rfl,T,hx⟩ hd
   have hd:¬ x.ns p<=sz:=of_decide_eq_false hd;obtain ⟨dx,c,fs,hU,hd',hsm,hns,hp,bh,hc,hsub⟩:=T.wi.at_ p sh hg;rw [hC] at hp
   walk_at "rd";exact ⟨_,_,_,hp,Zj,Zc,_,YJ _ _,_,rfl,_,ao.of hc,_,Xs _ (by omega),q x H' T (by omega)⟩
inductive nY (vs:List V) (H:Hp) (Q:VK) (E_:XK):Prop
 | mk (n:Nat) (h0:vs=[.int n]) (h1:n<=100) (h2:Q (.int (1*2^n / 2^1)) H)
theorem Z4B {Z6 Z5 Z1 Z2 Z4 Z3 Z0:Addr} (R:g.Raw "least_distance" "least_distance" yC ["size"]):g.Fn (1) "least_distance" ["size"] (nY):=by
 refine R.fn Z4y (fun vs H Q E h=>by obtain ⟨n,rfl,hn,q⟩:=h;rfl) fun f_ cdv A outer s H vs Q E hr h=>?_
 obtain ⟨n,rfl,hn,q⟩:=h;refine ⟨_,(@Yf _ _ _ (@Ym _ _ _ _ (@YR _ _ _ _ _ _ _ _ Rg (@YR _ _ _ _ _ _ _ _ Fw Yh (pv 0)) Yh))),?_⟩;walk_at "rd";exact ⟨⟨by omega,by omega,by decide⟩,by decide,q⟩
theorem Ja {k:Nat} {Z6 Z5 Z1 Z2 Z4 Z3 Z0:Addr} (R:g.aO Z0 "reckoned" "WholeMaker.reckoned" za ["self","size"]) (zR:g.Fn k "least_distance" ["size"] (nY)) (fL:g.mg "max"=none) (fM:g.mg "min"=none) (Z8:Cls g.K Z0) (Z7:Yc g.K Z0 "counts") (Zf:Yc g.K Z0 "low") (Zd:Yc g.K Z0 "span"):g.Me (k+1) Z0 "reckoned" ["self","size"] (bx (Cs.mk Z0 Z2 Z4 Z1 Z3) 0 (m+1)):=by
 refine R.me Im (fun vs H Q E h=>by obtain ⟨w,t,p,sh,sz,rfl,hk,W,hg,hn,hs,hf,hR,q⟩:=h;rfl) fun f_ cdv A outer s H vs Q E hr h=>?_
 obtain ⟨w,t,p,sh,sz,rfl,hk,W,hg,hn,hs,hf,hR,q⟩:=h;refine ⟨_,(@Ye _ _ _ _ _ (@Yz _ _ (2) _ _ _ _ Im.nd rfl (.inl rfl) (@YS _ _ _ _ _ _ _ _ _ _ fM (Rk rfl) (@Ya _ _ _ _ _ (@YB _ _ _ _ _ (pv 0) rfl) (@Ya _ _ _ _ _ (@YR _ _ _ _ _ _ _ _ WO (@YR _ _ _ _ _ _ _ _ Fw Yh (pv 1)) Yh) Yb (by rfl)) (by rfl)) (by decide +kernel) (by rfl) (by rfl) (by decide) (by decide) (by rfl) (by rfl)) (by rfl) (by first | exact .inl rfl | exact .inr rfl | assumption)) (@Yf _ _ _ (@Ym _ _ _ _ (@YS _ _ _ _ _ _ _ _ _ _ fL (Rj rfl) (@Ya _ _ _ _ _ Yh (@Ya _ _ _ _ _ (@YR _ _ _ _ _ _ _ _ Wp (@YR _ _ _ _ _ _ _ _ WO (pv 2) (@YA _ _ _ _ _ _ _ _ _ _ _ _ zR hr (@Ya _ _ _ _ _ (pv 1) Yb (by rfl)) (by omega) (by rfl) (by rfl) (by decide) (by rfl) (by rfl))) Yh) Yb (by rfl)) (by rfl)) (by decide +kernel) (by rfl) (by rfl) (by decide) (by decide) (by rfl) (by rfl))))),?_⟩
 cases sh with
 | w lo span =>
  obtain ⟨dx,c,fs,hU,hd,hsm,hns,hp,bh,hc,hsub⟩:=W.at_ p _ hg;have hsub:fs=fW lo span:=hsub;subst hsub;walk_at "rd";have:=q t H (.refl W _ _) hn (fun ps z=>by cases z) (fun dx c fs as _ h a ha=>by rw [show as=[] from h] at ha;cases ha);rw [Qx] at this
  exact ⟨_,_,_,hp,Z8,Zd,_,rfl,⟨by omega,by omega,by decide⟩,_,rfl,sz,rfl,by omega,_,rfl,this⟩
 | _=>simp [kind] at hk
def Blk (H:Hp) (D:Addr) (ps:List (Int×Int)):Prop:=∃ xs:List V,H D=some (.lst xs)/\xs.length=ps.length/\∀ (i:Nat) x p,xs[i]?=some x->ps[i]?=some p->∃ T,x = .ref T/\H T=some (.tup [.int p.1,.int p.2])
inductive zT (K:W.Frag) (vs:List V) (H:Hp) (Q:VK) (E_:XK):Prop
 | mk (D:Addr) (ps:List (Int×Int)) (h0:vs=[.ref D]) (h1:Blk H D ps) (h2:ps.length<=1000) (h3:(∀ p∈ps,sm p.1/\sm p.2)) (h4:∀ H',Yj H H'->Q (.int (ps.map fun p=>p.1*p.2).sum) H')
section
variable {src:List (Option Nat)} {te:TE} {σ:St} {H:Hp} {Q:VK}
theorem Yeg {K:W.Frag} {tl:TE} {b:Addr} {xs:List V} (ps:List (V×V)) (ys:List V) (ha:∀ R:V->Hp->Prop,R (.ref b) H->tl σ H R) (hS:ao K H b xs) (hp:∀ (i:Nat) x p,xs[i]?=some x->ps[i]?=some p->∃ T,x = .ref T/\H T=some (.tup [p.1,p.2])) (hl:ps.length=xs.length) (hl2:ys.length=xs.length) (hlen:xs.length<=100000)
  (step:∀ (i:Nat) p y H',ps[i]?=some p->ys[i]?=some y->Yj H H'->∀ R:VK,(∀ aK,Yj H' aK->R y aK)->te (some p.1::some p.2::YI src σ) H' R)
  (fin:∀ D H',H D=none->Yj H H'->H' D=some (.lst ys)->Q (.ref D) H'):d7 (none::none::src) (W0 K tl) (VF K 2 (Xz (YG 0) (Xz (YG 1) V6))) Wa te σ H Q:=by
 refine ha _ ⟨b,rfl,⟨xs,hS⟩,fun D hD=>?_⟩;have h6:100000<sizeLine:=by decide
 refine Vy (Ws.imp fun H' (e:Yj H H')=>e.seq hS) (fun i zs σ' H'=>zs=ys.take i/\(∃ o o',σ'=o::o'::YI src σ)/\Yj H H'/\H' D=some (.lst zs)) ⟨by simp,⟨none,none,rfl⟩,.aj hD _,Yd⟩ (fun i zs σ' H' p=>⟨p.2.2.1,p.2.2.2⟩) (U7 K 0 1) ?_ ?_
 ·rintro i zs σ' H' x hx ⟨rfl,⟨o,o',rfl⟩,sm,hd⟩
  have hi:=(List.getElem?_eq_some_iff.mp hx).1;have hy:ys[i]?=some (ys[i]'(by omega)):=List.getElem?_eq_getElem _;have hpi:ps[i]?=some (ps[i]'(by omega)):=List.getElem?_eq_getElem _;obtain ⟨T,rfl,hT⟩:=hp i x _ hx hpi;refine ⟨T,_,rfl,au.of (sm _ _ hT),rfl,_,_,rfl,_,_,rfl,rfl,?_⟩;refine step i _ _ H' hpi hy sm _ fun aK s2=>⟨s2 _ _ hd,?_,(Xn hy).symm,⟨_,_,rfl⟩,.cO hD (sm.trans s2) _,Yd⟩
  rw [List.length_take];omega
 ·rintro zs σ' H' ⟨rfl,_,sm,hd⟩
  rw [<- hl2,List.take_length] at hd
  exact fin D H' hD sm hd
end
theorem Yc7 {Z6 Z5 Z1 Z2 Z4 Z3 Z0:Addr} (R:g.Raw "ways_of" "ways_of" yu ["blocks"]) (dO:g.mg "sum"=none):g.Fn (1) "ways_of" ["blocks"] (zT g.K):=by
 refine R.fn Yc3 (fun vs H Q E h=>by obtain ⟨D,ps,rfl,⟨xs,hD,gj,hxp⟩,hl,hb,q⟩:=h;rfl) fun f_ cdv A outer s H vs Q E hr h=>?_
 obtain ⟨D,ps,rfl,⟨xs,hD,gj,hxp⟩,hl,hb,q⟩:=h;refine ⟨_,(@Yf _ _ _ (@Ym _ _ _ _ (@YS _ _ _ _ _ _ _ _ _ _ dO Uj (@Ya _ _ _ _ _ (@X2 _ _ _ _ _ _ _ ([none,none]) ((["choices","rest"]:List Str)) _ (VF g.K 2 (Xz (YG 0) (Xz (YG 1) V6))) _ _ (.own (.own .nil)) rfl (@Xo _ _ _ _ (pv 0)) (fun cl C s₀ H₀ fp pn=>(@VI _ _ _ _ _ (2) rfl (@Xk _ _ _ _ _ (@YK _ _ (0) _ (show List.Nodup (["choices","rest"]:List Str) by decide +kernel) rfl (.inl rfl) (.inr rfl)) (@Xk _ _ _ _ _ (@YK _ _ (1) _ (show List.Nodup (["choices","rest"]:List Str) by decide +kernel) rfl (.inl rfl) (.inr rfl)) W6 (by rfl)) (by rfl)) (by rfl) (by rfl))) (fun cl C s₀ H₀ fp pn=>Xc) (fun cl C s₀ H₀ fp pn=>(@YR _ _ _ _ _ _ _ _ QR (pv 0) (pv 1))) (by intro x hx;simp at hx) (by rfl) (by decide) (by decide +kernel) (by intro _;rfl)) Yb (by rfl)) (by decide +kernel) (by rfl) (by rfl) (by decide) (by decide) (by rfl) (by rfl)))),?_⟩;walk_at "rd";refine Yeg (K:=g.K) (b:=D) (xs:=xs) (ps.map fun p=>(V.int p.1,V.int p.2)) (ps.map fun p=>V.int (p.1*p.2)) (fun R r=>by walk_at "rd";exact r) (ao.of hD) ?_ (by rw [List.length_map];omega) (by rw [List.length_map];omega) (by omega) ?_ ?_
 ·intro i x p hx hp
  rw [List.getElem?_map] at hp
  obtain ⟨p',hp',rfl⟩:=Option.map_eq_some_iff.mp hp;exact hxp i x p' hx hp'
 ·intro i p y H' hp hy sm R r
  rw [List.getElem?_map] at hp hy
  obtain ⟨p',hp',rfl⟩:=Option.map_eq_some_iff.mp hp;rw [hp'] at hy
  have:V.int (p'.1*p'.2)=y:=Option.some.inj hy;subst this;obtain ⟨⟨n1,b0,b1⟩,⟨n2,b2,b3⟩⟩:=hb p' (List.mem_of_getElem? hp');walk_at "rd";exact ⟨.inl (cm b1 b3 (by omega)),r H' (.refl _)⟩
 ·intro D' H' hD' sm hd
  refine ⟨D',rfl,ps.map fun p=>p.1*p.2,ao.of (by rw [hd,List.map_map];rfl),q H' sm⟩
def Tb (C:Cs) (H:Hp) (p T:Addr):Prop:=∃ dx c P,H p=some (.ins C.row dx (mf c (fR P T)))
inductive d8 (C:Cs) (l:Nat) (vs:List V) (H:Hp) (Q:VK) (E_:XK):Prop
 | mk (w:Wo) (t:Sw) (p T:Addr) (ps:List Sh) (pl left:Nat) (h0:vs=[.ref T,.int pl,.int left]) (h1:WI C w t H) (h2:w.reg p=some (.row ps)) (h3:Tb C H p T) (h4:pl<=ps.length) (h5:left<=40) (h6:1<=l) (h7:(left<t.ms p ps.length->left<t.ms p pl/\Q (.int (YD w.bk (ps.drop pl) left)) H)) (h8:(t.ms p ps.length<=left->fZ t p/\left<=t.ns p/\fu w left (YU ps+1)+3<=l/\Xa w t left (YU ps+1)/\∀ t' H',Tr C w t H t' H' left (YU ps+2)->t'.ns p=t.ns p->fZ t' p->left<t'.ms p 0->Q (.int (YD w.bk (ps.drop pl) left)) H'))
inductive gR (C:Cs) (l:Nat) (vs:List V) (H:Hp) (Q:VK) (E_:XK):Prop
 | mk (w:Wo) (t:Sw) (p T:Addr) (ps:List Sh) (sz:Nat) (h0:vs=[.ref T,.int sz]) (h1:WI C w t H) (h2:w.reg p=some (.row ps)) (h3:Tb C H p T) (h4:(∀ i,t.ms p i=sz)) (h5:sz<=40) (h6:sz<=t.ns p) (h7:fu w sz (YU ps+1)+2<=l) (h8:Xa w t sz (YU ps+1)) (h9:∀ t' H',Tr C w t H t' H' sz (YU ps+2)->t'.ns p=t.ns p->(∀ i,t'.ms p i=sz+1)->Q .non H')
inductive pR (C:Cs) (l:Nat) (vs:List V) (H:Hp) (Q:VK) (E_:XK):Prop
 | mk (w:Wo) (t:Sw) (p T:Addr) (ps:List Sh) (pl left:Nat) (sh:Sh) (h0:vs=[.ref T,.int pl,.int left]) (h1:WI C w t H) (h2:w.reg p=some (.row ps)) (h3:Tb C H p T) (h4:ps[pl]?=some sh) (h5:left<=40) (h6:left<=t.ns p) (h7:(∀ i,pl<i->left<t.ms p i)) (h8:fu w left (YU ps+1)+1<=l) (h9:Xa w t left (YU ps+1)) (h10:∀ D t' H',Tr C w t H t' H' left (YU ps+1)->H D=none->¬ t'.U D->Blk H' D ((List.range (left+1)).map fun f=>(cnt w.bk sh f,YD w.bk (ps.drop (pl+1)) (left - f)))->(∀ a,UO C H p pl a->left<t'.ns a)->Q (.ref D) H')
theorem Jb {C:Cs} {vs:List V} {H:Hp} {Q:VK} {E:XK} (h:d8 C 0 vs H Q E):False:=by
 obtain ⟨w,t,p,T,ps,pl,left,_,_,_,_,_,_,h,_⟩:=h;omega
theorem Yhc {C:Cs} {vs:List V} {H:Hp} {Q:VK} {E:XK} (h:gR C 0 vs H Q E):False:=by
 obtain ⟨w,t,p,T,ps,sz,_,_,_,_,_,_,_,h,_⟩:=h;omega
theorem Yc8 {C:Cs} {vs:List V} {H:Hp} {Q:VK} {E:XK} (h:pR C 0 vs H Q E):False:=by
 obtain ⟨w,t,p,T,ps,pl,left,sh,_,_,_,_,_,_,_,_,h,_⟩:=h;omega
theorem Uc {as bs:List Addr} (h:as.map V.ref=bs.map V.ref):as=bs:=by
 induction as generalizing bs with
 | nil=>cases bs with
  | nil=>rfl
  | cons b bs=>simp at h
 | cons a as ih=>cases bs with
  | nil=>simp at h
  | cons b bs =>
   rw [List.map_cons,List.map_cons] at h
   injection h with h1 h2
   rw [V.ref.inj h1,ih h2]
theorem QW {c c' P P' T T':Addr} (h:mf c (fR P T)=mf c' (fR P' T')):P=P'/\T=T':=by
 unfold mf fR at h
 injection h with _ h
 injection h with h1 h
 injection h with h2 _
 injection h1 with _ h1
 injection h2 with _ h2
 exact ⟨V.ref.inj h1,V.ref.inj h2⟩
theorem Yeh {C:Cs} {w:Wo} {t:Sw} {H H':Hp} {p a:Addr} {i:Nat} {ps:List Sh} (W:WI C w t H) (hg:w.reg p=some (.row ps)) (fr:Fr w H H') (h:UO C H' p i a):UO C H p i a:=by
 obtain ⟨dx,c,fs,hU,hd,hsm,hns,hp,bh,hc,hsub⟩:=W.at_ p _ hg;obtain ⟨P,T',dt,L,as,ws,rfl,h2,h3,h4,h5,h6,_⟩:=hsub;obtain ⟨cW,c',P',T'',bs,e1,e2,e3⟩:=h;rw [fr _ _ hU.1 hp] at e1
 have e:=Option.some.inj e1
 injection e with _ _ e
 obtain ⟨rfl,_⟩:=QW e;rw [fr _ _ h2.1 h5] at e2
 have e:=Option.some.inj e2
 injection e with e
 cases Uc e
 exact ⟨dx,c,P,T',as,hp,h5,e3⟩
theorem Jc {C:Cs} {w:Wo} {t:Sw} {H:Hp} {p T P dt L a:Addr} {i:Nat} {as:List Addr} {ps:List Sh} (W:WI C w t H) (hg:w.reg p=some (.row ps)) (hTb:Tb C H p T) (hT:H T=some (.ins C.tab dt (Wv P L))) (hP:H P=some (.lst (as.map V.ref))) (h:UO C H p i a):as[i]?=some a:=by
 obtain ⟨dx,c,fs,hU,hd,hsm,hns,hp,bh,hc,hsub⟩:=W.at_ p _ hg;obtain ⟨P1,T1,dt1,L1,as1,ws,rfl,h2,h3,h4,h5,h6,h7,h8,_⟩:=hsub;obtain ⟨pQ,c2,P2,hp2⟩:=hTb;rw [hp] at hp2
 have e:=Option.some.inj hp2
 injection e with _ _ e
 obtain ⟨_,rfl⟩:=QW e;rw [h8] at hT
 have e:=Option.some.inj hT
 injection e with _ _ e
 unfold Wv at e
 injection e with e _
 injection e with _ e
 cases V.ref.inj e
 obtain ⟨cW,c',P',T'',bs,e1,e2,e3⟩:=h;rw [hp] at e1
 have e:=Option.some.inj e1
 injection e with _ _ e
 obtain ⟨rfl,_⟩:=QW e;rw [hP] at e2
 have e:=Option.some.inj e2
 injection e with e
 cases Uc e
 exact e3
theorem VR {C:Cs} {w:Wo} {t:Sw} {H:Hp} {p T:Addr} {ps:List Sh} (W:WI C w t H) (hg:w.reg p=some (.row ps)) (hT:Tb C H p T):∃ (P dt L:Addr) (as ws:List Addr),w.D T=none/\w.D P=none/\w.D L=none/\H P=some (.lst (as.map V.ref))/\eO w t p as ps/\ps.length<=100 /\
   H T=some (.ins C.tab dt (Wv P L))/\H L=some (.lst (ws.map V.ref))/\ws.length=ps.length+1 /\
   (∀ (i:Nat) x,ws[i]?=some x->w.D x=some (p,i+1)/\t.ns p<=t.ms p i/\t.ms p i<=60/\H x=some (.lst (Xd (YD w.bk (ps.drop i)) (t.ms p i))))/\(∀ i s,s<=45->sm (YD w.bk (ps.drop i) s))/\dep (.row ps)<=w.M:=by
 obtain ⟨dx,c,fs,hU,hd,hsm,hns,hp,bh,hc,hsub⟩:=W.at_ p _ hg;obtain ⟨P,T',dt,L,as,ws,rfl,h2,h3,h4,h5,h6,h7,h8,h9,h10,h11,h12⟩:=hsub;obtain ⟨cW,c',P',hp'⟩:=hT;rw [hp] at hp'
 have e:=Option.some.inj hp'
 injection e with e1 e2 e3
 unfold mf fR at e3
 injection e3 with e4 e5
 injection e5 with e6 e7
 injection e7 with e8 e9
 injection e8 with _ e8
 have:=V.ref.inj e8;subst this;exact ⟨P,dt,L,as,ws,h3.1,h2.1,h4.1,h5,h6,h7,h8,h9,h10,h11,h12,hd⟩
theorem Tr.tb {C:Cs} {w:Wo} {t t':Sw} {H H':Hp} {s d:Nat} (T:Tr C w t H t' H' s d) {p x:Addr} {sh:Sh} (W:WI C w t H) (hg:w.reg p=some sh) (h:Tb C H p x):Tb C H' p x:=by
 obtain ⟨dx,c,P,h⟩:=h;obtain ⟨_,_,_,hU,_⟩:=W.at_ p _ hg;exact ⟨dx,c,P,T.fr _ _ hU.1 h⟩
abbrev sV (C:Cs) (l:Nat):List (Addr×Sp):=[(C.w,Zo C 0 l),(C.row,Zo C 2 l),(C.pick,Zo C 3 l),(C.use,Zo C 5 l)]
theorem Yfj (C:Cs) (l:Nat) (sh:Sh):(Ub C sh,Zo C (kind sh) l)∈sV C l:=by
 cases sh with
 | w lo span=>exact .head _
 | row ps=>exact .tail _ (.head _)
 | pick mk ps=>exact .tail _ (.tail _ (.head _))
 | use x=>exact .tail _ (.tail _ (.tail _ (.head _)))
theorem WE {C:Cs} {w:Wo} {t:Sw} {H:Hp} {a:Addr} {sh:Sh} {l sz:Nat} {Q:VK} (W:WI C w t H) (hg:w.reg a=some sh) (hs:sz<=40) (hf:fu w sz (dep sh)+5<=l) (hR:Xa w t sz (dep sh+1))
  (q:∀ t' H',Tr C w t H t' H' sz (dep sh+1)->sz<t'.ns a->Q (.int (cnt w.bk sh sz)) H'):gH (sV C l) H a "count_at" fun sp=>sp [.ref a,.int sz] H Q E0:=by
 obtain ⟨dx,c,fs,hU,hd,hsm,hns,hp,bh,hc,hsub⟩:=W.at_ a sh hg;exact ⟨_,_,Yfj C l sh,dx,_,hp,WS (by decide +kernel) hsub,w,t,a,sh,sz,rfl,rfl,W,hg,by omega,hs,fun h=>q t H (.refl W _ _) h,fun _=>⟨hf,hR,fun t' H' T e=>q t' H' T (by omega)⟩⟩
theorem Jd {k:Nat} {Z6 Z5 Z1 Z2 Z4 Z3 Z0:Addr} (R:g.aO Z4 "blocks_at" "RowTable.blocks_at" zp ["self","place","left"]) (zU:g.Me k Z4 "ways_at" ["self","place","left"] (d8 (Cs.mk Z0 Z2 Z4 Z1 Z3) m)) (Zt:g.Me k Z0 "count_at" ["self","size"] (Zo (Cs.mk Z0 Z2 Z4 Z1 Z3) 0 m)) (Zw:g.Me k Z2 "count_at" ["self","size"] (Zo (Cs.mk Z0 Z2 Z4 Z1 Z3) 2 m)) (Zu:g.Me k Z1 "count_at" ["self","size"] (Zo (Cs.mk Z0 Z2 Z4 Z1 Z3) 3 m)) (Zx:g.Me k Z3 "count_at" ["self","size"] (Zo (Cs.mk Z0 Z2 Z4 Z1 Z3) 5 m)) (ZY:g.mg "range"=none) (Za:Cls g.K Z1) (Z9:Yc g.K Z1 "counts") (Zg:Yc g.K Z1 "marks") (Ze:Yc g.K Z1 "parts") (Zh:Cls g.K Z2) (Zb:Yc g.K Z2 "counts") (Zl:Yc g.K Z2 "parts") (Zk:Yc g.K Z2 "table") (Zn:Cls g.K Z4) (Zr:Yc g.K Z4 "parts") (Zm:Yc g.K Z4 "ways") (Zj:Cls g.K Z3) (Zc:Yc g.K Z3 "counts") (Zi:Yc g.K Z3 "named") (Z8:Cls g.K Z0) (Z7:Yc g.K Z0 "counts") (Zf:Yc g.K Z0 "low") (Zd:Yc g.K Z0 "span"):g.Me (k+1) Z4 "blocks_at" ["self","place","left"] (pR (Cs.mk Z0 Z2 Z4 Z1 Z3) (m+1)):=by
 refine R.me Ip (fun vs H Q E h=>by obtain ⟨w,t,p,T,ps,pl,left,sh,rfl,W,hg,hT,hsh,hl,uX,hms,hf,hR,q⟩:=h;rfl) fun f_ cdv A outer s H vs Q E hr h=>?_
 obtain ⟨w,t,p,T,ps,pl,left,sh,rfl,W,hg,hT,hsh,hl,uX,hms,hf,hR,q⟩:=h;refine ⟨_,(@Ye _ _ _ _ _ (@Yz _ _ (3) _ _ _ _ Ip.nd rfl (.inr rfl) (@Yo _ _ _ _ _ _ _ YL (@YB _ _ _ _ _ (pv 0) rfl) (pv 1) (fun _ _=>rfl)) (by rfl) (by first | exact .inl rfl | exact .inr rfl | assumption)) (@Yf _ _ _ (@Ym _ _ _ _ (@X2 _ _ _ _ _ _ _ ([none,some 3,some 0,some 1,some 2]) ((["first","part","self","place","left"]:List Str)) _ (YG 0) _ _ (.own (.cap (i:=3) rfl rfl (by first | exact .inl rfl | exact .inr rfl) (.cap (i:=0) rfl rfl (by first | exact .inl rfl | exact .inr rfl) (.cap (i:=1) rfl rfl (by first | exact .inl rfl | exact .inr rfl) (.cap (i:=2) rfl rfl (by first | exact .inl rfl | exact .inr rfl) .nil))))) rfl (@Vs _ _ _ _ _ _ rfl ZY (@Ya _ _ _ _ _ (@YR _ _ _ _ _ _ _ _ Wp (pv 2) Yh) Yb (by rfl)) (by rfl)) (fun cl C s₀ H₀ fp pn=>(@YK _ _ (0) _ (show List.Nodup (["first","part","self","place","left"]:List Str) by decide +kernel) rfl (.inl rfl) (.inr rfl))) (fun cl C s₀ H₀ fp pn=>Xc) (fun cl C s₀ H₀ fp pn=>(@Yu _ _ _ _ _ (@Ya _ _ _ _ _ (@XH _ _ _ _ _ _ _ _ _ _ _ _ _ _ _ (Yp Zt Z8 (Yp Zw Zh (Yp Zu Za (Yp Zx Zj Xp)))) hr (pv 1) (@Ya _ _ _ _ _ (pv 0) Yb (by rfl)) (by omega) (by rfl) (by rfl) (by rfl) (by rfl)) (@Ya _ _ _ _ _ (@XA _ _ _ _ _ _ _ _ _ _ _ _ _ _ _ _ zU Zn hr (pv 2) (@Ya _ _ _ _ _ (@YR _ _ _ _ _ _ _ _ Wp (pv 3) Yh) (@Ya _ _ _ _ _ (@YR _ _ _ _ _ _ _ _ WO (pv 4) (pv 0)) Yb (by rfl)) (by rfl)) (by omega) (by rfl) (by rfl) (by rfl) (by rfl)) Yb (by rfl)) (by rfl)))) (by intro x hx;simp at hx;first | (subst hx;exact .inl rfl) | (rcases hx with rfl | rfl<;>exact .inl rfl) | (rcases hx with rfl | rfl | rfl<;>exact .inl rfl) | (rcases hx with rfl | rfl | rfl | rfl<;>exact .inl rfl) | (rcases hx with rfl | rfl | rfl | rfl | rfl<;>exact .inl rfl)) (by rfl) (by decide) (by decide +kernel) (by intro _;rfl))))),?_⟩;walk_at "rd";obtain ⟨P,dt,L,as,ws,dT,dP,dL,hP,hra,hpl,hTT,dR,hwl,hws,hsm,hdp⟩:=VR W hg hT;have hpi:=(List.getElem?_eq_some_iff.mp hsh).1;have hal:=hra.1;have hai:as[pl]?=some (as[pl]'(by omega)):=List.getElem?_eq_getElem _;generalize as[pl]'(by omega)=a at hai;have hga:=hra.2 pl a sh hai hsh;have hds:dep sh<=YU ps:=WB (List.mem_of_getElem? hsh);have hdr:dep (.row ps)=YU ps+1:=by rw [dep]
 refine ⟨_,_,_,hTT,Zn,Zr,_,rfl,P,rfl,_,ao.of hP,.ref a,Yr (by rw [List.getElem?_map,hai];rfl),?_⟩;refine V9 (n:=left+1) (fun D i zs H'=>∃ t',Tr (Cs.mk Z0 Z2 Z4 Z1 Z3) w t H t' H' left (YU ps+1)/\i<=t'.ns a/\zs.length=i/\H' D=some (.lst zs)/\¬ t'.U D/\∀ (j:Nat) x,zs[j]?=some x->∃ T,x = .ref T/\w.D T=none/\¬ t'.U T/\T≠D/\H' T=some (.tup [.int (cnt w.bk sh j),.int (YD w.bk (ps.drop (pl+1)) (left - j))])) (fun R r=>by walk_at "rd";exact r) (by omega) ?_ ?_ ?_ ?_
 ·intro D hD
  exact ⟨t,(Tr.refl W _ _).put hD (W.new hD).2 _,Nat.zero_le _,rfl,Yd,(W.new hD).2,fun j x hx=>by simp at hx⟩
 ·rintro D i zs H' ⟨t',_,_,h1,h2,_⟩
  exact ⟨h1,h2⟩
 ·rintro D i zs H' hD hi ⟨t',T1,hna,hz,hd,cX,hts⟩ R r
  have fm:fu w i (dep sh)+5<=fu w left (YU ps+1):=QV (by omega) (by omega);have dD:w.D D=none:=(W.new hD).1;walk_at "rd";refine WE T1.wi hga (by omega) (by omega) ((T1.ready hR).mono (by omega)) fun t2 H2 T2 hn2=>?_
  have iI:=T1.trans (T2.mono (by omega));have own:=iI.own hg (by omega) uX;have hd2:=T2.fr _ _ dD hd;have fH:=T2.ours cX hd;refine ⟨_,_,iI.fr _ _ dT hTT,rfl,w,t2,p,T,ps,pl+1,left - i,by rw [show (left:Int) - (i:Int)=((left - i:Nat):Int) by omega];rfl,T2.wi,hg,iI.tb W hg hT,by omega,by omega,by omega,fun _=>⟨?_,few (by decide),fun X gX=>?_⟩,fun h=>?_⟩
  ·rw [own.2]
   have:=hms (pl+1) (by omega);omega
  ·have gU:X≠D:=Ne.symm (Yt hd2 gX)
   have sX:=Yj.aj gX (.tup [.int (cnt w.bk sh i),.int (YD w.bk (ps.drop (pl+1)) (left - i))]);refine r _ _ (sX _ _ hd2) ⟨t2,(iI.same sX).put hD fH _,hn2,by rw [List.length_append,hz];rfl,Yd,fH,fun j x hx=>?_⟩;by_cases c:j<zs.length
   ·rw [List.getElem?_append_left c] at hx
    obtain ⟨Y,rfl,y1,y2,y3,y4⟩:=hts j x hx;exact ⟨Y,rfl,y1,T2.ours y2 y4,y3,by rw [Yg y3];exact sX _ _ (T2.fr _ _ y1 y4)⟩
   ·have hj:j=zs.length:=by
     have:=(List.getElem?_eq_some_iff.mp hx).1;rw [List.length_append,List.length_singleton] at this
     omega
    subst hj;rw [List.getElem?_append_right (Nat.le_refl _),Nat.sub_self] at hx
    have:V.ref X=x:=Option.some.inj hx;subst this;exact ⟨X,rfl,(T2.wi.new gX).1,(T2.wi.new gX).2,gU,by rw [Yg gU,Yd,hz]⟩
  ·have:=hms ps.length (by omega)
   rw [own.2] at h
   omega
 ·rintro D zs H' hD ⟨t',T1,hna,hz,hd,cX,hts⟩
  refine q D t' H' T1 hD cX ⟨zs,hd,by rw [hz,List.length_map,List.length_range],fun j x y hx hy=>?_⟩ fun a' ha'=>?_
  rotate_left
  ·have:=Jc W hg hT hTT hP ha'
   rw [hai] at this
   cases Option.some.inj this
   exact hna
  obtain ⟨X,rfl,_,_,_,hX⟩:=hts j x hx;have hj:=(List.getElem?_eq_some_iff.mp hx).1;rw [List.getElem?_map,List.getElem?_range (by omega)] at hy
  have:=Option.some.inj hy;subst this;exact ⟨X,rfl,hX⟩
theorem Je {xs:List V} {n:Nat} {x:V} (hl:xs.length=n+1) (h:xs[n]?=some x):dY xs (-1)=some x:=by
 have e:xs=xs.take n++[x]:=by rw [<- Xn h,List.take_of_length_le (by omega)]
 rw [e];exact R0 _ _
theorem XM (P L:Addr):(Wv P L).lookup ("ways":Str)=some (.ref L):=by
 unfold Wv;rw [List.lookup_cons,show (("ways":Str)==("parts":Str))=false by decide +kernel,List.lookup_cons,show (("ways":Str)==("ways":Str))=true by decide +kernel]
theorem QX (P L:Addr) {m:Str} (hm:isF m=false):(Wv P L).lookup m=none:=by
 obtain ⟨a1,a2,a3,a4,a5,a6,a7,a8,a9,a10⟩:=Iw hm;unfold Wv;rw [List.lookup_cons,a5,List.lookup_cons,a7];rfl
theorem Yc9 {g:TG} {tb:TS} {D:Ends} {σ:St} {H:Hp} {ta:TA} {n:Nat} (Pv:Nat->St->Hp->Prop) (ha:∀ R:List V->Hp->Prop,R [.int ((n:Int) - 1),.int (-1),.int (-1)] H->ta σ H R) (hn:n<2^62) (h0:Pv 0 σ H)
  (hs:∀ i σ H,i<n->Pv i σ H->g (.int ((n - 1 - i:Nat):Int)) σ H fun σ2 H2=>tb { D with nx:=Pv (i+1),ct:=Pv (i+1),bk:=D.nx } σ2 H2) (hd:∀ σ H,Pv n σ H->D.nx σ H):QM (Hh ta) g tb D σ H:=by
 refine ha _ ⟨(n:Int) - 1,-1,rfl,⟨by omega,by omega,by omega,by omega⟩,?_⟩;have e:((n:Int) - 1 - (-1)).toNat=n:=by omega
 rw [e];refine ⟨fun i m σ H=>m=n - i/\i<=n/\Pv i σ H,⟨n,by simp,Nat.zero_le _,h0⟩,?_⟩;rintro i m σ H ⟨rfl,hi,p⟩;by_cases hlt:i<n
 ·refine .inr ⟨hlt,Pv (i+1),fun σ' H' p'=>⟨n - (i+1),by omega,rfl,hlt,p'⟩,fun x H' y=>?_⟩
  obtain ⟨e,y⟩:=y;subst e y;have:=hs i σ _ hlt p;have e2:((n - 1 - i:Nat):Int)=(n:Int) - 1 - i:=by omega
  rw [e2] at this
  exact this
 ·have e:i=n:=by omega
  subst e;exact .inl ⟨Nat.le_refl _,hd σ H p⟩
theorem Jf {k:Nat} {Z6 Z5 Z1 Z2 Z4 Z3 Z0:Addr} (R:g.aO Z4 "add_size" "RowTable.add_size" zm ["self","size"]) (zV:g.Fn k "ways_of" ["blocks"] (zT g.K)) (zW:g.Me k Z4 "blocks_at" ["self","place","left"] (pR (Cs.mk Z0 Z2 Z4 Z1 Z3) m)) (aF:g.mg "len"=none) (ZY:g.mg "range"=none) (Zn:Cls g.K Z4) (Zr:Yc g.K Z4 "parts") (Zm:Yc g.K Z4 "ways"):g.Me (k+1) Z4 "add_size" ["self","size"] (gR (Cs.mk Z0 Z2 Z4 Z1 Z3) (m+1)):=by
 refine R.me Io (fun vs H Q E h=>by obtain ⟨w,t,p,T,ps,sz,rfl,W,hg,hT,hms,hs,hsn,hf,hR,q⟩:=h;rfl) fun f_ cdv A outer s H vs Q E hr h=>?_
 obtain ⟨w,t,p,T,ps,sz,rfl,W,hg,hT,hms,hs,hsn,hf,hR,q⟩:=h;refine ⟨_,(@Ye _ _ _ _ _ (@Xb _ _ _ _ (@Vv _ _ _ _ _ _ _ _ _ _ _ _ PySem.F.plainAttrs_list PySem.F.slot_list_append PySem.F.type_list_append Xu (@Yo _ _ _ _ _ _ _ YL (@YB _ _ _ _ _ (pv 0) rfl) (@Ql _ _ _ _ _ _ Uo Yh) (fun _ _=>rfl)) (@Ya _ _ _ _ _ (@Fj _ _ _ _ _ _ _ _ (@Yl _ _ _ _ _ _ _ _ YC (pv 1) Yh (Yn _)) Yh Yh) Yb (by rfl)) (by rfl) (by rfl) (by rfl) (by rfl) (by rfl)) (by rfl)) (@Yf _ _ _ (@WN _ _ _ _ _ _ _ _ PassesOwn.never rfl (@TV _ _ _ _ _ _ _ _ rfl ZY (@Ya _ _ _ _ _ (@YR _ _ _ _ _ _ _ _ WO (@YS _ _ _ _ _ _ _ _ _ _ aF YH (@Ya _ _ _ _ _ (@YB _ _ _ _ _ (pv 0) rfl) Yb (by rfl)) (by decide +kernel) (by rfl) (by rfl) (by decide) (by decide) (by rfl) (by rfl)) Yh) (@Ya _ _ _ _ _ (@Ql _ _ _ _ _ _ Uo Yh) (@Ya _ _ _ _ _ (@Ql _ _ _ _ _ _ Uo Yh) Yb (by rfl)) (by rfl)) (by rfl)) (by rfl) (by rfl)) (@YK _ _ (2) _ Io.nd rfl (.inl rfl) (by first | exact .inl rfl | exact .inr rfl | assumption)) (@Yf _ _ _ (@Xb _ _ _ _ (@Vv _ _ _ _ _ _ _ _ _ _ _ _ PySem.F.plainAttrs_list PySem.F.slot_list_append PySem.F.type_list_append Xu (@Yo _ _ _ _ _ _ _ YL (@YB _ _ _ _ _ (pv 0) rfl) (pv 2) (fun _ _=>rfl)) (@Ya _ _ _ _ _ (@YA _ _ _ _ _ _ _ _ _ _ _ _ zV hr (@Ya _ _ _ _ _ (@XA _ _ _ _ _ _ _ _ _ _ _ _ _ _ _ _ zW Zn hr (pv 0) (@Ya _ _ _ _ _ (pv 2) (@Ya _ _ _ _ _ (pv 1) Yb (by rfl)) (by rfl)) (by omega) (by rfl) (by rfl) (by rfl) (by rfl)) Yb (by rfl)) (by omega) (by rfl) (by rfl) (by decide) (by rfl) (by rfl)) Yb (by rfl)) (by rfl) (by rfl) (by rfl) (by rfl) (by rfl)) (by rfl))) (by intro _;rfl)))),?_⟩;obtain ⟨P,dt,L,as,ws,dT,dP,dL,hP,hra,hpl,hTT,dR,hwl,hws,hsm,hdp⟩:=VR W hg hT;have hwk:ws[ps.length]?=some (ws[ps.length]'(by omega)):=List.getElem?_eq_getElem _;generalize ws[ps.length]'(by omega)=y at hwk;obtain ⟨pK,hny,Oi,hy⟩:=hws ps.length y hwk;have hnn:t.ns p=sz:=by have:=hms ps.length;omega
 rw [hms] at hy
 have e0:YD w.bk (ps.drop ps.length) sz=if sz=0 then 1 else 0:=by rw [List.drop_length,Xw]
 have hdr:dep (.row ps)=YU ps+1:=by rw [dep]
 have hbr:bnd sz (YU ps+1) (.row ps)<=t.ns p:=by rw [bnd,if_neg (by omega)];omega
 refine QQ (fun σ H'=>σ=[some (.ref T),some (.int sz),none]/\H'=upd H y (.lst (Xd (YD w.bk (ps.drop ps.length)) (sz+1)))) ?_ (fun N hN=>?_)
 rotate_left
 ·walk_at "rd"
  refine ⟨_,_,_,hTT,Zn,Zm,_,XM _ _,L,rfl,_,ao.of dR,.ref y,Je (n:=ps.length) (by rw [List.length_map,hwl]) (by rw [List.getElem?_map,hwk];rfl),.inl ⟨rfl,_,ao.of hy⟩,Y6 (fun c=>?_) (fun c=>?_)⟩
  ·refine ⟨y,rfl,_,hy,by rw [YN];exact few (by omega),hN _ _ ⟨rfl,?_⟩⟩
   rw [XL,e0,if_pos (by omega)]
  ·refine ⟨y,rfl,_,hy,by rw [YN];exact few (by omega),hN _ _ ⟨rfl,?_⟩⟩
   rw [XL,e0,if_neg (by omega)]
 rintro σ H1 ⟨rfl,rfl⟩;have T0:cT (Cs.mk Z0 Z2 Z4 Z1 Z3) w t H t H sz (YU ps+2) p:=(Tr.refl W _ _).b rfl;have T1:=T0.way hg pK (hms _) (by omega) (fun j h1 h2=>by omega) (fun a ha=>by
  have h1:=(List.getElem?_eq_some_iff.mp (Jc W hg hT hTT hP ha)).1;have h2:=hra.1;omega)
 walk_at "rd";refine Yc9 (n:=ps.length) (fun i σ H'=>∃ (t':Sw) (o:Option V),σ=[some (.ref T),some (.int sz),o]/\cT (Cs.mk Z0 Z2 Z4 Z1 Z3) w t H t' H' sz (YU ps+2) p/\(∀ j,ps.length - i<=j->t'.ms p j=sz+1)/\∀ j,j<ps.length - i->t'.ms p j=sz) (fun R r=>?_) (by omega) ⟨_,none,rfl,T1,fun j hj=>if_pos ⟨rfl,hj⟩,fun j hj=>(if_neg (fun z=>by omega)).trans (hms j)⟩ ?_ ?_
 ·walk_at "rd"
  refine ⟨_,_,_,T1.fr _ _ dT hTT,Zn,Zr,_,rfl,P,rfl,_,.inl (ao.of (T1.fr _ _ dP hP)),?_⟩;rw [List.length_map,hra.1];exact r
 ·rintro i σ H' hi ⟨t',o,rfl,T2,hge,hlt⟩
  obtain ⟨pl,Oj⟩:∃ pl,pl=ps.length - 1 - i:=⟨_,rfl⟩;rw [<- Oj];have hsh:ps[pl]?=some (ps[pl]'(by omega)):=List.getElem?_eq_getElem _;generalize ps[pl]'(by omega)=sh at hsh;have hwp:ws[pl]?=some (ws[pl]'(by omega)):=List.getElem?_eq_getElem _;generalize ws[pl]'(by omega)=yy at hwp;obtain ⟨sW,_,_,_⟩:=hws pl yy hwp;have hT':Tb (Cs.mk Z0 Z2 Z4 Z1 Z3) H' p T:=by
   obtain ⟨dx,c,P',h⟩:=hT;obtain ⟨_,_,_,hU,_⟩:=W.at_ p _ hg;exact ⟨dx,c,P',T2.fr _ _ hU.1 h⟩
  obtain ⟨P2,dt2,L2,as2,jB,_,_,_,_,_,_,_,_,Ol,nZ,_,_⟩:=VR T2.wi hg hT';have Om:jB[pl]?=some (jB[pl]'(by omega)):=List.getElem?_eq_getElem _;obtain ⟨hD2,_,_,hy2⟩:=nZ pl _ Om;rw [T2.wi.inj _ _ _ hD2 sW] at hy2
  walk_at "rd";refine ⟨_,_,_,T2.fr _ _ dT hTT,Zn,Zm,_,XM _ _,L,rfl,_,ao.of (T2.fr _ _ dL dR),.ref yy,Yr (by rw [List.getElem?_map,hwp];rfl),.inl ⟨rfl,_,ao.of hy2⟩,_,_,T2.fr _ _ dT hTT,QX _ _ (by decide +kernel),?_⟩;refine ⟨w,t',p,T,ps,pl,sz,sh,rfl,T2.wi,hg,hT',hsh,hs,by rw [T2.own];exact hsn,fun j hj=>by rw [hge j (by omega)];omega,by omega,T2.ready hg hbr hR,fun D t3 H3 T3 gD cX hB hpc=>?_⟩;have own:=T3.own hg (by omega) (by rw [T2.own];exact hsn);have hlen:((List.range (sz+1)).map fun f=>(cnt w.bk sh f,YD w.bk (ps.drop (pl+1)) (sz - f))).length=sz+1:=by simp
  refine ⟨D,_,rfl,hB,by rw [hlen];omega,fun x hx=>?_,fun H4 s4=>?_⟩
  ·obtain ⟨f,hf',rfl⟩:=List.mem_map.mp hx
   have hf':=List.mem_range.mp hf';have hga:∃ a,w.reg a=some sh:=by
    have hai:as[pl]?=some (as[pl]'(by have:=hra.1;omega)):=List.getElem?_eq_getElem _;exact ⟨_,hra.2 pl _ sh hai hsh⟩
   obtain ⟨a,hga⟩:=hga;obtain ⟨_,_,_,_,_,sZ,_⟩:=W.at_ a sh hga;exact ⟨sZ f (by omega),hsm _ _ (by omega)⟩
  have T4:=(T2.trans ((T3.mono (by omega)).b own.1)).same s4;have T5:=T4.way (i:=pl) hg sW (by rw [own.2];exact hlt pl (by omega)) (by omega) (fun j h1 h2=>by rw [own.2];exact hge j (by omega)) (fun a ha=>hpc a (Yeh T2.wi hg (fun b o e h=>s4 _ _ (T3.fr b o e h)) ha));obtain ⟨P4,dt4,L4,as4,Jg,_,_,_,_,_,_,_,_,afZ,Oo,_,_⟩:=VR T3.wi hg (T3.tb T2.wi hg hT');have Oq:Jg[pl]?=some (Jg[pl]'(by omega)):=List.getElem?_eq_getElem _;obtain ⟨hD4,_,_,uY⟩:=Oo pl _ Oq;rw [T3.wi.inj _ _ _ hD4 sW,own.2,hlt pl (by omega)] at uY
  have uY:=s4 _ _ uY;refine ⟨yy,rfl,_,uY,by rw [YN];exact few (by omega),t3.gJ p pl (sz+1),?_,fun j hj=>?_,fun j hj=>?_⟩
  ·have esum:(((List.range (sz+1)).map fun f=>(cnt w.bk sh f,YD w.bk (ps.drop (pl+1)) (sz - f))).map fun p=>p.1*p.2).sum=YD w.bk (ps.drop pl) sz:=by
    rw [List.drop_eq_getElem_cons (by omega:pl<ps.length),XT,List.map_map];have:ps[pl]'(by omega)=sh:=by
     have:=List.getElem?_eq_getElem (l:=ps) (i:=pl) (by omega);rw [this] at hsh
     exact Option.some.inj hsh
    rw [this];rfl
   rw [esum,<- XL];exact T5
  ·show (if p=p/\pl<=j then _ else _)=_
   rw [if_pos ⟨rfl,by omega⟩]
  ·show (if p=p/\pl<=j then _ else _)=_
   rw [if_neg (by omega),own.2];exact hlt j (by omega)
 ·rintro σ H' ⟨t',o,rfl,T2,hge,hlt⟩
  walk_at "rd";have hall:∀ i,t'.ms p i=sz+1:=fun i=>hge i (by omega)
  exact q t' H' (T2.to hg (by omega) (by omega) (fun i=>by rw [hall,hall])) T2.own hall
theorem Jh {k:Nat} {Z6 Z5 Z1 Z2 Z4 Z3 Z0:Addr} (R:g.aO Z4 "ways_at" "RowTable.ways_at" zj ["self","place","left"]) (Z3Z:g.Me k Z4 "add_size" ["self","size"] (gR (Cs.mk Z0 Z2 Z4 Z1 Z3) m)) (aF:g.mg "len"=none) (Zn:Cls g.K Z4) (Zr:Yc g.K Z4 "parts") (Zm:Yc g.K Z4 "ways"):g.Me (k+1) Z4 "ways_at" ["self","place","left"] (d8 (Cs.mk Z0 Z2 Z4 Z1 Z3) (m+1)):=by
 refine R.me Z3W (fun vs H Q E h=>by obtain ⟨w,t,p,T,ps,pl,left,rfl,W,hg,hT,hpl,hl,hm1,q1,q2⟩:=h;rfl) fun f_ cdv A outer s H vs Q E hr h=>?_
 obtain ⟨w,t,p,T,ps,pl,left,rfl,W,hg,hT,hpl,hl,hm1,q1,q2⟩:=h;refine ⟨_,(@Ye _ _ _ _ _ (@Wy _ _ _ _ _ _ PassesOwn.never (@Yl _ _ _ _ _ _ _ _ WH (@YS _ _ _ _ _ _ _ _ _ _ aF YH (@Ya _ _ _ _ _ (@Yo _ _ _ _ _ _ _ YL (@YB _ _ _ _ _ (pv 0) rfl) (@Ql _ _ _ _ _ _ Uo Yh) (fun _ _=>rfl)) Yb (by rfl)) (by decide +kernel) (by rfl) (by rfl) (by decide) (by decide) (by rfl) (by rfl)) (pv 2) (Yn _)) (@Yf _ _ _ (@Xb _ _ _ _ (@XA _ _ _ _ _ _ _ _ _ _ _ _ _ _ _ _ Z3Z Zn hr (pv 0) (@Ya _ _ _ _ _ (@YS _ _ _ _ _ _ _ _ _ _ aF YH (@Ya _ _ _ _ _ (@Yo _ _ _ _ _ _ _ YL (@YB _ _ _ _ _ (pv 0) rfl) (@Ql _ _ _ _ _ _ Uo Yh) (fun _ _=>rfl)) Yb (by rfl)) (by decide +kernel) (by rfl) (by rfl) (by decide) (by decide) (by rfl) (by rfl)) Yb (by rfl)) (by omega) (by rfl) (by rfl) (by rfl) (by rfl)) (by rfl)))) (@Yf _ _ _ (@Ym _ _ _ _ (@Yo _ _ _ _ _ _ _ YL (@Yo _ _ _ _ _ _ _ YL (@YB _ _ _ _ _ (pv 0) rfl) (pv 1) (fun _ _=>rfl)) (pv 2) (fun _ _=>rfl))))),?_⟩;obtain ⟨P,dt,L,as,ws,dT,dP,dL,hP,hra,hpl',hTT,dR,hwl,hws,hsm,hdp⟩:=VR W hg hT;have hwk:ws[ps.length]?=some (ws[ps.length]'(by omega)):=List.getElem?_eq_getElem _;generalize ws[ps.length]'(by omega)=y at hwk;obtain ⟨pK,hny,Oi,hy⟩:=hws ps.length y hwk;have hwp:ws[pl]?=some (ws[pl]'(by omega)):=List.getElem?_eq_getElem _;generalize ws[pl]'(by omega)=yp at hwp;obtain ⟨hDp,hnp,hmp,hyp⟩:=hws pl yp hwp;have oh:dY (ws.map V.ref) (-1)=some (.ref y):=Je (n:=ps.length) (by rw [List.length_map,hwl]) (by rw [List.getElem?_map,hwk];rfl);have hmp':dY (ws.map V.ref) (pl:Int)=some (.ref yp):=Yr (by rw [List.getElem?_map,hwp];rfl);walk_at "rd";by_cases cs:left<t.ms p ps.length
 ·refine Xq (α:=Unit) (fun x σ H'=>σ=[some (.ref T),some (.int pl),some (.int left)]/\H=H') (fun x=>false) (fun x=>0) () ⟨rfl,rfl⟩ ?_ ?_ ?_
  ·rintro x σ H' ⟨rfl,rfl⟩ R r
   walk_at "rd";refine ⟨_,_,_,hTT,Zn,Zm,_,XM _ _,L,rfl,_,ao.of dR,_,oh,y,rfl,_,.inl (ao.of hy),?_⟩;rw [YN,dle,decide_eq_false (by omega)];exact r H ⟨rfl,rfl⟩
  ·rintro x σ H' ⟨rfl,rfl⟩ hd
   cases hd
  ·rintro x σ H' ⟨rfl,rfl⟩ hd
   walk_at "rd";exact ⟨_,_,_,hTT,Zn,Zm,_,XM _ _,L,rfl,_,ao.of dR,_,hmp',yp,rfl,_,ao.of hyp,_,Xs _ (q1 cs).1,(q1 cs).2⟩
 ·obtain ⟨hU,uX,hf,hR,q⟩:=q2 (by omega)
  have hms:∀ i,t.ms p i=left:=fun i=>by have:=hU i;have:=hU ps.length;omega
  have T0:∀ (x:Sw) (H':Hp),Tr (Cs.mk Z0 Z2 Z4 Z1 Z3) w t H x H' left (YU ps+2)->(∀ i,x.ms p i=left+1)->H' y=some (.lst (Xd (YD w.bk (ps.drop ps.length)) (left+1)))/\H' yp=some (.lst (Xd (YD w.bk (ps.drop pl)) (left+1))):=fun x H' T1 hx=>by
   obtain ⟨P2,dt2,L2,as2,jB,_,_,_,_,_,_,_,_,Ol,nZ,_,_⟩:=VR T1.wi hg (T1.tb W hg hT);have h1:jB[ps.length]?=some (jB[ps.length]'(by omega)):=List.getElem?_eq_getElem _;have h2:jB[pl]?=some (jB[pl]'(by omega)):=List.getElem?_eq_getElem _;obtain ⟨k1,_,_,k4⟩:=nZ _ _ h1;obtain ⟨j1,_,_,j4⟩:=nZ _ _ h2;rw [T1.wi.inj _ _ _ k1 pK,hx] at k4
   rw [T1.wi.inj _ _ _ j1 hDp,hx] at j4
   exact ⟨k4,j4⟩
  rw [hms] at hy
  refine Xq (α:=Bool×Sw) (fun x σ H'=>σ=[some (.ref T),some (.int pl),some (.int left)]/\(x.1=false->x.2=t/\H'=H)/\(x.1=true->Tr (Cs.mk Z0 Z2 Z4 Z1 Z3) w t H x.2 H' left (YU ps+2)/\x.2.ns p=t.ns p/\∀ i,x.2.ms p i=left+1)) (fun x => !x.1) (fun x=>if x.1 then 0 else 1) (false,t) ⟨rfl,fun _=>⟨rfl,rfl⟩,fun z=>by cases z⟩ ?_ ?_ ?_
  ·rintro ⟨b,x⟩ σ H' ⟨rfl,h1,h2⟩ R r
   have rr:=r H' ⟨rfl,h1,h2⟩;walk_at "rd"
   cases b with
   | false =>
    obtain ⟨rfl,rfl⟩:=h1 rfl;refine ⟨_,_,_,hTT,Zn,Zm,_,XM _ _,L,rfl,_,ao.of dR,_,oh,y,rfl,_,.inl (ao.of hy),?_⟩;rw [YN,dle,decide_eq_true (by omega)];exact rr
   | true =>
    obtain ⟨T1,_,hx⟩:=h2 rfl;refine ⟨_,_,_,T1.fr _ _ dT hTT,Zn,Zm,_,XM _ _,L,rfl,_,ao.of (T1.fr _ _ dL dR),_,oh,y,rfl,_,.inl (ao.of (T0 x H' T1 hx).1),?_⟩;rw [YN,dle,decide_eq_false (by omega)];exact rr
  ·rintro ⟨b,x⟩ σ H' ⟨rfl,h1,h2⟩ hd
   cases b with
   | true=>cases hd
   | false =>
    obtain ⟨rfl,rfl⟩:=h1 rfl;walk_at "rd";refine ⟨_,_,hTT,QX _ _ (by decide +kernel),_,_,_,hTT,Zn,Zm,_,XM _ _,L,rfl,_,ao.of dR,_,oh,y,rfl,_,.inl (ao.of hy),?_⟩;rw [YN];exact ⟨w,x,p,T,ps,left,rfl,W,hg,hT,hms,hl,uX,by omega,hR,fun t' H' T1 hn hx=>⟨(true,t'),(fun z=>by cases z),fun _=>⟨T1,hn,hx⟩,Nat.zero_lt_one⟩⟩
  ·rintro ⟨b,x⟩ σ H' ⟨rfl,h1,h2⟩ hd
   cases b with
   | false=>cases hd
   | true =>
    obtain ⟨T1,hn,hx⟩:=h2 rfl;walk_at "rd";exact ⟨_,_,_,T1.fr _ _ dT hTT,Zn,Zm,_,XM _ _,L,rfl,_,ao.of (T1.fr _ _ dL dR),_,hmp',yp,rfl,_,ao.of (T0 x H' T1 hx).2,_,Xs _ (by omega),q x H' T1 hn (fun i=>by rw [hx,hx]) (by rw [hx];omega)⟩
theorem Ji (c P T:Addr):(mf c (fR P T)).lookup ("table":Str)=some (.ref T):=by
 unfold mf fR;rw [List.lookup_cons,show (("table":Str)==("counts":Str))=false by decide +kernel,List.lookup_cons,show (("table":Str)==("parts":Str))=false by decide +kernel,List.lookup_cons,show (("table":Str)==("table":Str))=true by decide +kernel]
theorem Jj {k:Nat} {Z6 Z5 Z1 Z2 Z4 Z3 Z0:Addr} (R:g.aO Z2 "reckoned" "RowMaker.reckoned" zu ["self","size"]) (zU:g.Me k Z4 "ways_at" ["self","place","left"] (d8 (Cs.mk Z0 Z2 Z4 Z1 Z3) m)) (Zh:Cls g.K Z2) (Zb:Yc g.K Z2 "counts") (Zl:Yc g.K Z2 "parts") (Zk:Yc g.K Z2 "table") (Zn:Cls g.K Z4) (Zr:Yc g.K Z4 "parts") (Zm:Yc g.K Z4 "ways"):g.Me (k+1) Z2 "reckoned" ["self","size"] (bx (Cs.mk Z0 Z2 Z4 Z1 Z3) 2 (m+1)):=by
 refine R.me Z3o (fun vs H Q E h=>by obtain ⟨w,t,p,sh,sz,rfl,hk,W,hg,hn,hs,hf,hR,q⟩:=h;rfl) fun f_ cdv A outer s H vs Q E hr h=>?_
 obtain ⟨w,t,p,sh,sz,rfl,hk,W,hg,hn,hs,hf,hR,q⟩:=h;refine ⟨_,(@Yf _ _ _ (@Ym _ _ _ _ (@XA _ _ _ _ _ _ _ _ _ _ _ _ _ _ _ _ zU Zn hr (@YB _ _ _ _ _ (pv 0) rfl) (@Ya _ _ _ _ _ Yh (@Ya _ _ _ _ _ (pv 1) Yb (by rfl)) (by rfl)) (by omega) (by rfl) (by rfl) (by rfl) (by rfl)))),?_⟩
 cases sh with
 | row ps =>
  obtain ⟨dx,c,fs,hU,hd,hsm,hns,hp,bh,hc,hsub⟩:=W.at_ p _ hg;obtain ⟨P,T,dt,L,as,ws,rfl,h2,h3,h4,h5,h6,h7,h8,h9,h10,h11,h12⟩:=hsub;have hT:Tb (Cs.mk Z0 Z2 Z4 Z1 Z3) H p T:=⟨dx,c,P,hp⟩;have hdr:dep (.row ps)=YU ps+1:=by rw [dep]
  rw [hdr] at hf hR
  have ou:fZ t p:=hR p _ hg (by rw [hn,bnd,if_pos (by omega)];omega);have hwk:ws[ps.length]?=some (ws[ps.length]'(by omega)):=List.getElem?_eq_getElem _;obtain ⟨_,hnk,_,_⟩:=h11 _ _ hwk;have hw0:ws[0]?=some (ws[0]'(by omega)):=List.getElem?_eq_getElem _;obtain ⟨_,hn0,_,_⟩:=h11 _ _ hw0;walk_at "rd";refine ⟨_,_,_,hp,Zh,Zk,_,Ji _ _ _,T,rfl,_,_,h8,QX _ _ (by decide +kernel),w,t,p,T,ps,0,sz,rfl,W,hg,hT,by omega,hs,by omega,fun h=>⟨by rw [<- ou ps.length];exact h,?_⟩,fun h=>⟨ou,by omega,by omega,hR.mono (by omega),fun t' H' T1 hn' hU' hl'=>?_⟩⟩
  ·have:=q t H (.refl W _ _) hn fun ps' z i=>by
    have:=Sh.row.inj z;subst this;rw [ou i,<- ou ps.length];omega
   rw [XI] at this
   exact this fun dx c fs as _ h a ha=>by rw [show as=[] from h] at ha;cases ha
  ·have cA:∀ i,sz+1<=t'.ms p i:=fun i=>by
    rw [hU' i];exact hl'
   have:=q t' H' (by rw [hdr];exact T1) (by omega) fun ps' z i=>cA i
   rw [XI] at this
   exact this fun dx c fs as _ h a ha=>by rw [show as=[] from h] at ha;cases ha
 | _=>simp [kind] at hk
def Jk (C:Cs) (H:Hp) (p a:Addr):Prop:=∃ dx c M P,∃ as:List Addr,H p=some (.ins C.pick dx (mf c (fP M P)))/\H P=some (.lst (as.map V.ref))/\a∈as
theorem Jl {c c' P P' T T':Addr} (h:mf c (fP P T)=mf c' (fP P' T')):P=P'/\T=T':=by
 unfold mf fP at h
 injection h with _ h
 injection h with h1 h
 injection h with h2 _
 injection h1 with _ h1
 injection h2 with _ h2
 exact ⟨V.ref.inj h1,V.ref.inj h2⟩
theorem Yfk {C:Cs} {H:Hp} {p dx c M P a:Addr} {as:List Addr} (hp:H p=some (.ins C.pick dx (mf c (fP M P)))) (hP:H P=some (.lst (as.map V.ref))) (h:Jk C H p a):a∈as:=by
 obtain ⟨cW,c',M',P',bs,e1,e2,e3⟩:=h;rw [hp] at e1
 have e:=Option.some.inj e1
 injection e with _ _ e
 obtain ⟨_,rfl⟩:=Jl e;rw [hP] at e2
 have e:=Option.some.inj e2
 injection e with e
 cases Uc e
 exact e3
inductive pU (C:Cs) (l:Nat) (vs:List V) (H:Hp) (Q:VK) (E_:XK):Prop
 | mk (w:Wo) (t:Sw) (p:Addr) (mk:List (List Nat)) (ps:List Sh) (sz:Nat) (h0:vs=[.ref p,.int sz]) (h1:WI C w t H) (h2:w.reg p=some (.pick mk ps)) (h3:sz<=40) (h4:sz<=t.ns p) (h5:fu w sz (YU ps+1)+3<=l) (h6:Xa w t sz (YU ps+1)) (h7:∀ D t' H',Tr C w t H t' H' sz (YU ps+1)->H D=none->¬ t'.U D->Blk H' D (ps.map fun sh=>(cnt w.bk sh sz,1))->(∀ a,Jk C H p a->sz<t'.ns a)->Q (.ref D) H')
theorem Yda {C:Cs} {vs:List V} {H:Hp} {Q:VK} {E:XK} (h:pU C 0 vs H Q E):False:=by
 obtain ⟨w,t,p,mk,ps,sz,_,_,_,_,_,h,_⟩:=h;omega
theorem Jm (c M P:Addr):(mf c (fP M P)).lookup ("parts":Str)=some (.ref P):=by
 unfold mf fP;rw [List.lookup_cons,show (("parts":Str)==("counts":Str))=false by decide +kernel,List.lookup_cons,show (("parts":Str)==("marks":Str))=false by decide +kernel,List.lookup_cons,show (("parts":Str)==("parts":Str))=true by decide +kernel]
theorem Jo (c:Addr) (a:V):(mf c (fU a)).lookup ("named":Str)=some a:=by
 unfold mf fU;rw [List.lookup_cons,show (("named":Str)==("counts":Str))=false by decide +kernel,List.lookup_cons,show (("named":Str)==("named":Str))=true by decide +kernel]
theorem Jp {k:Nat} {Z6 Z5 Z1 Z2 Z4 Z3 Z0:Addr} (R:g.aO Z3 "reckoned" "UseMaker.reckoned" zG ["self","size"]) (Zt:g.Me k Z0 "count_at" ["self","size"] (Zo (Cs.mk Z0 Z2 Z4 Z1 Z3) 0 m)) (Zw:g.Me k Z2 "count_at" ["self","size"] (Zo (Cs.mk Z0 Z2 Z4 Z1 Z3) 2 m)) (Zu:g.Me k Z1 "count_at" ["self","size"] (Zo (Cs.mk Z0 Z2 Z4 Z1 Z3) 3 m)) (Zx:g.Me k Z3 "count_at" ["self","size"] (Zo (Cs.mk Z0 Z2 Z4 Z1 Z3) 5 m)) (Za:Cls g.K Z1) (Z9:Yc g.K Z1 "counts") (Zg:Yc g.K Z1 "marks") (Ze:Yc g.K Z1 "parts") (Zh:Cls g.K Z2) (Zb:Yc g.K Z2 "counts") (Zl:Yc g.K Z2 "parts") (Zk:Yc g.K Z2 "table") (Zj:Cls g.K Z3) (Zc:Yc g.K Z3 "counts") (Zi:Yc g.K Z3 "named") (Z8:Cls g.K Z0) (Z7:Yc g.K Z0 "counts") (Zf:Yc g.K Z0 "low") (Zd:Yc g.K Z0 "span"):g.Me (k+1) Z3 "reckoned" ["self","size"] (bx (Cs.mk Z0 Z2 Z4 Z1 Z3) 5 (m+1)):=by
 refine R.me Z3q (fun vs H Q E h=>by obtain ⟨w,t,p,sh,sz,rfl,hk,W,hg,hn,hs,hf,hR,q⟩:=h;rfl) fun f_ cdv A outer s H vs Q E hr h=>?_
 obtain ⟨w,t,p,sh,sz,rfl,hk,W,hg,hn,hs,hf,hR,q⟩:=h;refine ⟨_,(@Yf _ _ _ (@Ym _ _ _ _ (@Fj _ _ _ _ _ _ _ _ (@Yl _ _ _ _ _ _ _ _ YC (pv 1) Yh (Yn _)) Yh (@XH _ _ _ _ _ _ _ _ _ _ _ _ _ _ _ (Yp Zt Z8 (Yp Zw Zh (Yp Zu Za (Yp Zx Zj Xp)))) hr (@YB _ _ _ _ _ (pv 0) rfl) (@Ya _ _ _ _ _ (@YR _ _ _ _ _ _ _ _ WO (pv 1) Yh) Yb (by rfl)) (by omega) (by rfl) (by rfl) (by rfl) (by rfl))))),?_⟩
 cases sh with
 | use x =>
  obtain ⟨dx,c,fs,hU,hd,hsm,hns,hp,bh,hc,hsub⟩:=W.at_ p _ hg;obtain ⟨a,rfl,hga,hcn⟩:=hsub;have pt:∀ {t':Sw} {H':Hp} {n:Nat},H' p=some (.ins Z3 dx (mf c (fU (.ref a))))->n<=t'.ns a+1->zQ (Cs.mk Z0 Z2 Z4 Z1 Z3) t' H' p (.use x) n:=fun {t' H' n} h1 h2 cW c' fs as e h b hb=>by
   obtain ⟨a',rfl,rfl⟩:=h;rw [h1] at e
   have e:=Option.some.inj e
   injection e with _ _ e
   unfold mf fU at e
   injection e with _ e
   injection e with e _
   injection e with _ e
   cases V.ref.inj e
   cases List.mem_singleton.mp hb
   exact h2
  have hdr:dep (.use x)=0:=by simp [dep]
  rw [hdr] at hf hR
  walk_at "rd";refine Y6 (fun c=>?_) (fun c=>?_)
  ·have e:sz=0:=by omega
   subst e;have:=q t H (.refl W _ _) hn (fun ps z=>by cases z) (pt hp (by omega));rw [WD] at this
   exact this
  ·obtain ⟨j,rfl⟩:∃ j,sz=j+1:=⟨sz - 1,by omega⟩
   obtain ⟨_,_,_,_,hda,_⟩:=W.at_ a _ hga;have fm:fu w j (dep (w.bk x))+5<=fu w (j+1) 0:=QV hda (by omega);rw [show ((j+1:Nat):Int) - 1=(j:Int) by omega];refine ⟨_,_,_,hp,Zj,Zi,_,Jo _ _,a,rfl,?_⟩;refine WE W hga (by omega) (by omega) (hR.mono (by omega)) fun t2 H2 T2 hn2=>?_
   have T3:Tr (Cs.mk Z0 Z2 Z4 Z1 Z3) w t H t2 H2 (j+1) 0:=T2.mono (by omega);have own:=T3.own hg (by omega) (by omega);have:=q t2 H2 (T3.mono (by omega)) (by omega) (fun ps z=>by cases z) (pt (T2.fr _ _ hU.1 hp) (by omega));rw [W7] at this
   exact this
 | _=>simp [kind] at hk
theorem Jq {k:Nat} {Z6 Z5 Z1 Z2 Z4 Z3 Z0:Addr} (R:g.aO Z1 "blocks_at" "PickMaker.blocks_at" zA ["self","size"]) (Zt:g.Me k Z0 "count_at" ["self","size"] (Zo (Cs.mk Z0 Z2 Z4 Z1 Z3) 0 m)) (Zw:g.Me k Z2 "count_at" ["self","size"] (Zo (Cs.mk Z0 Z2 Z4 Z1 Z3) 2 m)) (Zu:g.Me k Z1 "count_at" ["self","size"] (Zo (Cs.mk Z0 Z2 Z4 Z1 Z3) 3 m)) (Zx:g.Me k Z3 "count_at" ["self","size"] (Zo (Cs.mk Z0 Z2 Z4 Z1 Z3) 5 m)) (Za:Cls g.K Z1) (Z9:Yc g.K Z1 "counts") (Zg:Yc g.K Z1 "marks") (Ze:Yc g.K Z1 "parts") (Zh:Cls g.K Z2) (Zb:Yc g.K Z2 "counts") (Zl:Yc g.K Z2 "parts") (Zk:Yc g.K Z2 "table") (Zj:Cls g.K Z3) (Zc:Yc g.K Z3 "counts") (Zi:Yc g.K Z3 "named") (Z8:Cls g.K Z0) (Z7:Yc g.K Z0 "counts") (Zf:Yc g.K Z0 "low") (Zd:Yc g.K Z0 "span"):g.Me (k+1) Z1 "blocks_at" ["self","size"] (pU (Cs.mk Z0 Z2 Z4 Z1 Z3) (m+1)):=by
 refine R.me Z2S (fun vs H Q E h=>by obtain ⟨w,t,p,mk,ps,sz,rfl,W,hg,hs,hsn,hf,hR,q⟩:=h;rfl) fun f_ cdv A outer s H vs Q E hr h=>?_
 obtain ⟨w,t,p,mk,ps,sz,rfl,W,hg,hs,hsn,hf,hR,q⟩:=h;refine ⟨_,(@Yf _ _ _ (@Ym _ _ _ _ (@X2 _ _ _ _ _ _ _ ([none,some 1]) ((["part","size"]:List Str)) _ (YG 0) _ _ (.own (.cap (i:=1) rfl rfl (by first | exact .inl rfl | exact .inr rfl) .nil)) rfl (@Xo _ _ _ _ (@YB _ _ _ _ _ (pv 0) rfl)) (fun cl C s₀ H₀ fp pn=>(@YK _ _ (0) _ (show List.Nodup (["part","size"]:List Str) by decide +kernel) rfl (.inl rfl) (.inr rfl))) (fun cl C s₀ H₀ fp pn=>Xc) (fun cl C s₀ H₀ fp pn=>(@Yu _ _ _ _ _ (@Ya _ _ _ _ _ (@XH _ _ _ _ _ _ _ _ _ _ _ _ _ _ _ (Yp Zt Z8 (Yp Zw Zh (Yp Zu Za (Yp Zx Zj Xp)))) hr (pv 0) (@Ya _ _ _ _ _ (pv 1) Yb (by rfl)) (by omega) (by rfl) (by rfl) (by rfl) (by rfl)) (@Ya _ _ _ _ _ Yh Yb (by rfl)) (by rfl)))) (by intro x hx;simp at hx;first | (subst hx;exact .inl rfl) | (rcases hx with rfl | rfl<;>exact .inl rfl) | (rcases hx with rfl | rfl | rfl<;>exact .inl rfl) | (rcases hx with rfl | rfl | rfl | rfl<;>exact .inl rfl) | (rcases hx with rfl | rfl | rfl | rfl | rfl<;>exact .inl rfl)) (by rfl) (by decide) (by decide +kernel) (by intro _;rfl)))),?_⟩;walk_at "rd";obtain ⟨dx,c,fs,hU,hd,hsm,hns,hp,bh,hc,hsub⟩:=W.at_ p _ hg;obtain ⟨M,P,as,rfl,h2,h3,h4,h5,h6,h7⟩:=hsub;have hdr:dep (.pick mk ps)=YU ps+1:=by rw [dep]
 have hal:=h6.1;refine Yd9 (K:=g.K) (b:=P) (xs:=as.map V.ref) (fun D i zs H'=>∃ t',Tr (Cs.mk Z0 Z2 Z4 Z1 Z3) w t H t' H' sz (YU ps+1)/\(∀ (j:Nat) a,j<i->as[j]?=some a->sz<t'.ns a)/\zs.length=i/\H' D=some (.lst zs)/\¬ t'.U D/\∀ (j:Nat) x q,zs[j]?=some x->ps[j]?=some q->∃ T,x = .ref T/\w.D T=none/\¬ t'.U T/\T≠D/\H' T=some (.tup [.int (cnt w.bk q sz),.int 1])) (fun R r=>by walk_at "rd";exact ⟨_,_,_,hp,Za,Ze,_,Jm _ _ _,r⟩) (ao.of h5) (by rw [List.length_map];omega) ?_ ?_ ?_ ?_
 ·intro D hD
  exact ⟨t,(Tr.refl W _ _).put hD (W.new hD).2 _,fun j a hj=>absurd hj (Nat.not_lt_zero _),rfl,Yd,(W.new hD).2,fun j x q hx=>by simp at hx⟩
 ·rintro D i zs H' hD ⟨t',T1,_,h1,h2',_⟩
  exact ⟨h1,h2',ao.of (T1.fr _ _ h3.1 h5)⟩
 ·rintro D i x zs H' hD hx ⟨t',T1,hna,hz,hd',cX,hts⟩ R r
  rw [List.getElem?_map] at hx
  obtain ⟨a,ha,rfl⟩:=Option.map_eq_some_iff.mp hx;have hi:=(List.getElem?_eq_some_iff.mp ha).1;have hpi:ps[i]?=some (ps[i]'(by omega)):=List.getElem?_eq_getElem _;generalize ps[i]'(by omega)=sh at hpi;have hga:=h6.2 i a sh ha hpi;have hds:dep sh<=YU ps:=WB (List.mem_of_getElem? hpi);have fm:fu w sz (dep sh)+5<=fu w sz (YU ps+1):=QV (by omega) (by omega);have dD:w.D D=none:=(W.new hD).1;walk_at "rd";refine WE T1.wi hga (by omega) (by omega) ((T1.ready hR).mono (by omega)) fun t2 H2 T2 hn2=>⟨few (by decide),fun X gX=>?_⟩
  have iI:=T1.trans (T2.mono (by omega));have hd2:=T2.fr _ _ dD hd';have fH:=T2.ours cX hd';have gU:X≠D:=Ne.symm (Yt hd2 gX);have sX:=Yj.aj gX (.tup [.int (cnt w.bk sh sz),.int 1]);have Ot:∀ (j:Nat) b,j<i+1->as[j]?=some b->sz<t2.ns b:=fun j b hj hb=>by
   by_cases c:j<i
   ·have hpj:ps[j]?=some (ps[j]'(by have:=(List.getElem?_eq_some_iff.mp hb).1;omega)):=List.getElem?_eq_getElem _
    have:=(T2.gr b _ (h6.2 j b _ hb hpj)).up;have:=hna j b c hb;omega
   ·have:j=i:=by omega
    subst this;rw [ha] at hb
    cases Option.some.inj hb
    exact hn2
  refine r _ _ (sX _ _ hd2) ⟨t2,(iI.same sX).put hD fH _,Ot,by rw [List.length_append,hz];rfl,Yd,fH,fun j x q hx hq=>?_⟩;by_cases c:j<zs.length
  ·rw [List.getElem?_append_left c] at hx
   obtain ⟨Y,rfl,y1,y2,y3,y4⟩:=hts j x q hx hq;exact ⟨Y,rfl,y1,T2.ours y2 y4,y3,by rw [Yg y3];exact sX _ _ (T2.fr _ _ y1 y4)⟩
  ·have hj:j=zs.length:=by
    have:=(List.getElem?_eq_some_iff.mp hx).1;rw [List.length_append,List.length_singleton] at this
    omega
   subst hj;rw [List.getElem?_append_right (Nat.le_refl _),Nat.sub_self] at hx
   have:V.ref X=x:=Option.some.inj hx;subst this;rw [hz,hpi] at hq
   have:=Option.some.inj hq;subst this;exact ⟨X,rfl,(T2.wi.new gX).1,(T2.wi.new gX).2,gU,by rw [Yg gU,Yd]⟩
 ·rintro D zs H' hD ⟨t',T1,hna,hz,hd',cX,hts⟩
  rw [List.length_map] at hz hna
  refine q D t' H' T1 hD cX ⟨zs,hd',by rw [hz,List.length_map,hal],fun j x y hx hy=>?_⟩ fun a' ha'=>?_
  rotate_left
  ·obtain ⟨j,hj⟩:=List.mem_iff_getElem?.mp (Yfk hp h5 ha')
   exact hna j a' (List.getElem?_eq_some_iff.mp hj).1 hj
  have hj:=(List.getElem?_eq_some_iff.mp hx).1;rw [List.getElem?_map] at hy
  obtain ⟨q',hq',rfl⟩:=Option.map_eq_some_iff.mp hy;obtain ⟨X,rfl,_,_,_,hX⟩:=hts j x q' hx hq';exact ⟨X,rfl,hX⟩
theorem Jr {k:Nat} {Z6 Z5 Z1 Z2 Z4 Z3 Z0:Addr} (R:g.aO Z1 "reckoned" "PickMaker.reckoned" zB ["self","size"]) (zV:g.Fn k "ways_of" ["blocks"] (zT g.K)) (zX:g.Me k Z1 "blocks_at" ["self","size"] (pU (Cs.mk Z0 Z2 Z4 Z1 Z3) m)) (Za:Cls g.K Z1) (Z9:Yc g.K Z1 "counts") (Zg:Yc g.K Z1 "marks") (Ze:Yc g.K Z1 "parts"):g.Me (k+1) Z1 "reckoned" ["self","size"] (bx (Cs.mk Z0 Z2 Z4 Z1 Z3) 3 (m+1)):=by
 refine R.me Z32 (fun vs H Q E h=>by obtain ⟨w,t,p,sh,sz,rfl,hk,W,hg,hn,hs,hf,hR,q⟩:=h;rfl) fun f_ cdv A outer s H vs Q E hr h=>?_
 obtain ⟨w,t,p,sh,sz,rfl,hk,W,hg,hn,hs,hf,hR,q⟩:=h;refine ⟨_,(@Yf _ _ _ (@Ym _ _ _ _ (@YA _ _ _ _ _ _ _ _ _ _ _ _ zV hr (@Ya _ _ _ _ _ (@XA _ _ _ _ _ _ _ _ _ _ _ _ _ _ _ _ zX Za hr (pv 0) (@Ya _ _ _ _ _ (pv 1) Yb (by rfl)) (by omega) (by rfl) (by rfl) (by rfl) (by rfl)) Yb (by rfl)) (by omega) (by rfl) (by rfl) (by decide) (by rfl) (by rfl)))),?_⟩
 cases sh with
 | pick mk ps =>
  obtain ⟨dx,c,fs,hU,hd,hsm,hns,hp,bh,hc,hsub⟩:=W.at_ p _ hg;have hno:=fun {m:Str} (h:isF m=false)=>WS (c:=c) h hsub
  obtain ⟨M,P,as,rfl,h2,h3,h4,h5,h6,h7⟩:=hsub;have hdr:dep (.pick mk ps)=YU ps+1:=by rw [dep]
  rw [hdr] at hf hR
  walk_at "rd";refine ⟨_,_,hp,hno (by decide +kernel),w,t,p,mk,ps,sz,rfl,W,hg,hs,by omega,by omega,hR.mono (by omega),fun D t' H' T1 gD cX hB hpc=>?_⟩;refine ⟨D,_,rfl,hB,by rw [List.length_map];omega,fun x hx=>?_,fun H4 s4=>?_⟩
  ·obtain ⟨q',hq',rfl⟩:=List.mem_map.mp hx
   obtain ⟨i,hi,rfl⟩:=List.getElem_of_mem hq';have hai:as[i]?=some (as[i]'(by have:=h6.1;omega)):=List.getElem?_eq_getElem _;have hga:=h6.2 i _ _ hai (List.getElem?_eq_getElem hi);obtain ⟨_,_,_,_,_,sZ,_⟩:=W.at_ _ _ hga;exact ⟨sZ _ (by omega),1,by decide,(by decide:(1:Int).natAbs<2^1)⟩
  ·have own:=T1.own hg (by omega) (by omega)
   have:=q t' H4 (by rw [hdr];exact (T1.mono (by omega)).same s4) (by omega) (fun ps z=>by cases z) (fun cW c' fs bs e h b hb=>by
    obtain ⟨M',P',rfl,hP'⟩:=h;rw [s4 _ _ (T1.fr _ _ hU.1 hp)] at e
    have e:=Option.some.inj e
    injection e with _ _ e
    obtain ⟨_,rfl⟩:=Jl e;rw [s4 _ _ (T1.fr _ _ h3.1 h5)] at hP'
    have e:=Option.some.inj hP'
    injection e with e
    cases Uc e
    have:=hpc b ⟨dx,c,M,P,as,hp,h5,hb⟩;omega)
   rw [WC] at this
   rw [List.map_map,show ((fun p=>p.1*p.2) ∘ fun sh=>(cnt w.bk sh sz,(1:Int)))=fun sh=>cnt w.bk sh sz by funext z;exact Int.mul_one _];exact this
 | _=>simp [kind] at hk
abbrev aL:=List (List Nat×Sh)
def aD (prs:aL) (x:List Nat):Sh:=((prs.find? fun q=>decide (q.1=x)).map (·.2)).getD (.row [])
mutual
def aH (prs:aL):Sh->Prop
 | .w _ _=>True
 | .row ps=>ps.length<=100/\Xg prs ps
 | .pick mk ps=>mk.length=ps.length/\ps.length<=100/\Xg prs ps/\∀ m∈mk,PyData.strOk (S m)=true
 | .use x=>∃ q,(prs.find? fun q=>decide (q.1=x))=some q
def Xg (prs:aL):List Sh->Prop
 | []=>True
 | p::ps=>aH prs p/\Xg prs ps
end
theorem We {prs:aL} {p:Sh}:∀ {ps:List Sh},Xg prs ps->p∈ps->aH prs p
 | q::ps,h,hm=>by
  rw [Xg] at h
  rcases List.mem_cons.mp hm with rfl | hm
  ·exact h.1
  ·exact We h.2 hm
theorem Qe {prs:aL}:∀ {ps:List Sh} (i:Nat),Xg prs ps->Xg prs (ps.drop i)
 | _,0,h=>h
 | [],i+1,h=>h
 | q::ps,i+1,h=>by
  rw [Xg] at h
  exact Qe i h.2
mutual
def wt:Sh->Nat
 | .row ps=>aP ps+1
 | .pick _ ps=>aP ps+1
 | _=>1
def aP:List Sh->Nat
 | []=>0
 | p::ps=>wt p+aP ps
end
theorem VS (sh:Sh):1<=wt sh:=by cases sh<;>simp [wt]
theorem zY {p:Sh}:∀ {ps:List Sh},p∈ps->wt p<=aP ps
 | q::ps,h=>by
  rw [aP];rcases List.mem_cons.mp h with rfl | h
  ·omega
  ·have:=zY h
   omega
theorem Ud:∀ (ps:List Sh) (i:Nat),aP (ps.drop i)<=aP ps
 | _,0=>Nat.le_refl _
 | [],i+1=>Nat.le_refl _
 | q::ps,i+1=>by
  have:=Ud ps i;rw [List.drop_succ_cons,aP];omega
theorem uF {a b:List Nat} (h:S a=S b):a=b:=by
 unfold S at h
 injection h with h
 have:=congrArg Array.toList h;simpa using this
def bH:PyData->Str
 | .tuple (.str x::_)=>x
 | _=>""
mutual
theorem zZ {prs:aL}:∀ {a b:Sh},aH prs a->aH prs b->kd a=kd b->a=b
 | .w lo span,.w lo' span',_,_,h=>by
  simp only [kd,PyData.tuple.injEq,List.cons.injEq,PyData.int.injEq,and_true,true_and] at h;obtain ⟨rfl,h⟩:=h;have:span=span':=by omega
  rw [this]
 | .row ps,.row ps',h1,h2,h=>by
  simp only [kd,PyData.tuple.injEq,List.cons.injEq,and_true,true_and] at h;rw [aH] at h1 h2
  rw [Js h1.2 h2.2 h]
 | .pick mk ps,.pick mk' ps',h1,h2,h=>by
  simp only [kd,PyData.tuple.injEq,List.cons.injEq,and_true,true_and] at h;rw [aH] at h1 h2
  obtain ⟨e1,e2⟩:=Jt h1.1 h2.1 h1.2.2.1 h2.2.2.1 h;rw [e1,e2]
 | .use x,.use x',_,_,h=>by
  simp only [kd,PyData.tuple.injEq,List.cons.injEq,PyData.str.injEq,and_true,true_and] at h;rw [uF h]
 | .w _ _,.row _,_,_,h=>absurd (congrArg bH h) (by simp only [kd,bH];decide +kernel)
 | .w _ _,.pick _ _,_,_,h=>absurd (congrArg bH h) (by simp only [kd,bH];decide +kernel)
 | .w _ _,.use _,_,_,h=>absurd (congrArg bH h) (by simp only [kd,bH];decide +kernel)
 | .row _,.w _ _,_,_,h=>absurd (congrArg bH h) (by simp only [kd,bH];decide +kernel)
 | .row _,.pick _ _,_,_,h=>absurd (congrArg bH h) (by simp only [kd,bH];decide +kernel)
 | .row _,.use _,_,_,h=>absurd (congrArg bH h) (by simp only [kd,bH];decide +kernel)
 | .pick _ _,.w _ _,_,_,h=>absurd (congrArg bH h) (by simp only [kd,bH];decide +kernel)
 | .pick _ _,.row _,_,_,h=>absurd (congrArg bH h) (by simp only [kd,bH];decide +kernel)
 | .pick _ _,.use _,_,_,h=>absurd (congrArg bH h) (by simp only [kd,bH];decide +kernel)
 | .use _,.w _ _,_,_,h=>absurd (congrArg bH h) (by simp only [kd,bH];decide +kernel)
 | .use _,.row _,_,_,h=>absurd (congrArg bH h) (by simp only [kd,bH];decide +kernel)
 | .use _,.pick _ _,_,_,h=>absurd (congrArg bH h) (by simp only [kd,bH];decide +kernel)
theorem Js {prs:aL}:∀ {a b:List Sh},Xg prs a->Xg prs b->bQ a=bQ b->a=b
 | [],[],_,_,_=>rfl
 | p::ps,q::qs,h1,h2,h=>by
  rw [bQ,bQ] at h
  rw [Xg] at h1 h2
  injection h with e1 e2
  rw [zZ h1.1 h2.1 e1,Js h1.2 h2.2 e2]
 | [],_::_,_,_,h=>by simp [bQ] at h
 | _::_,[],_,_,h=>by simp [bQ] at h
theorem Jt {prs:aL}:∀ {mk mk':List (List Nat)} {a b:List Sh},mk.length=a.length->mk'.length=b.length->Xg prs a->Xg prs b->kdp mk a=kdp mk' b->mk=mk'/\a=b
 | [],[],[],[],_,_,_,_,_=>⟨rfl,rfl⟩
 | m::mk,m'::mk',p::ps,q::qs,l1,l2,h1,h2,h=>by
  rw [kdp,kdp] at h
  rw [Xg] at h1 h2
  injection h with e1 e2
  simp only [PyData.tuple.injEq,List.cons.injEq,PyData.str.injEq,and_true] at e1;obtain ⟨r1,r2⟩:=Jt (by simpa using l1) (by simpa using l2) h1.2 h2.2 e2;rw [uF e1.1,zZ h1.1 h2.1 e1.2,r1,r2];exact ⟨rfl,rfl⟩
 | [],_,_::_,_,l,_,_,_,_=>by simp at l
 | _::_,_,[],_,l,_,_,_,_=>by simp at l
 | _,[],_,_::_,_,l,_,_,_=>by simp at l
 | _,_::_,_,[],_,l,_,_,_=>by simp at l
 | [],_::_,[],_::_,_,_,_,_,h=>by simp [kdp] at h
 | _::_,[],_::_,[],_,_,_,_,h=>by simp [kdp] at h
end
theorem Ju {B:Int}:∀ {l:List Int},(∀ x∈l,0<=x/\x<=B)->0<=l.sum/\l.sum<=l.length*B
 | [],_=>by simp
 | a::l,h=>by
  obtain ⟨h1,h2⟩:=h a (.head _);obtain ⟨h3,h4⟩:=Ju (l:=l) fun x hx=>h x (.tail _ hx)
  rw [List.sum_cons,List.length_cons,Int.natCast_succ,Int.add_mul];omega
theorem Yhd {a b:Int} {x y:Nat} (h1:0<=a) (h2:a<=2^x) (h3:0<=b) (h4:b<=2^y):0<=a*b/\a*b<=2^(x+y):=by
 refine ⟨Int.mul_nonneg h1 h3,?_⟩;rw [Int.pow_add];exact Int.mul_le_mul h2 h4 h3 (Int.le_of_lt (Int.pow_pos (by decide)))
theorem W4 {a b:Nat} (h:a<=b):(2:Int)^a<=2^b:=by
 have:(2:Nat)^a<=2^b:=Nat.pow_le_pow_right (by decide) h
 exact_mod_cast this
theorem Yhe {n x:Nat} (h:n<=64):(n:Int)*2^x<=2^(6+x):=by
 rw [Int.pow_add];exact Int.mul_le_mul_of_nonneg_right (by omega) (Int.le_of_lt (Int.pow_pos (by decide)))
theorem Ue (span:Nat) (s:Nat):0<=wc span s/\wc span s<=2^s:=by
 have p:(0:Int)<2^s:=Int.pow_pos (by decide);unfold wc
 split
 ·split<;>omega
 ·omega
structure cg (prs:aL):Prop where
 len:prs.length<=3
 ok:∀ q∈prs,aH prs q.2
 wt:∀ q∈prs,wt q.2<=24
 dp:∀ q∈prs,dep q.2<=2
theorem Wg {prs:aL} {x:List Nat} {q:List Nat×Sh} (h:(prs.find? fun q=>decide (q.1=x))=some q):aD prs x=q.2/\q∈prs:=by
 rw [aD,h];exact ⟨rfl,List.mem_of_find?_eq_some h⟩
mutual
theorem Vj (prs:aL) (ob:cg prs):∀ (sh:Sh) (s:Nat),s<=45->aH prs sh->wt sh<=1000->0<=cnt (aD prs) sh s/\cnt (aD prs) sh s<=2^(300*s+(12*wt sh - 6))
 | .w lo span,s,hs,h,hw=>by
  have wp:=VS (.w lo span);rw [Qx];obtain ⟨h1,h2⟩:=Ue span s;exact ⟨h1,Int.le_trans h2 (W4 (by omega))⟩
 | .row ps,s,hs,h,hw=>by
  rw [aH] at h
  rw [wt] at hw ⊢
  rw [XI];obtain ⟨h1,h2⟩:=UQ prs ob ps s hs h.2 (by omega);exact ⟨h1,Int.le_trans h2 (W4 (by omega))⟩
 | .pick mk ps,s,hs,h,hw=>by
  rw [aH] at h
  rw [wt] at hw ⊢
  rw [WC];obtain ⟨h1,h2⟩:=Jv prs ob ps s hs h.2.2.1 (by omega);exact ⟨h1,Int.le_trans h2 (W4 (by omega))⟩
 | .use x,0,hs,h,hw=>by
  rw [WD];exact ⟨Int.le_refl _,Int.le_of_lt (Int.pow_pos (by decide))⟩
 | .use x,s+1,hs,h,hw=>by
  rw [aH] at h
  obtain ⟨q,hq⟩:=h;obtain ⟨eb,hm⟩:=Wg hq;have w1:=ob.wt q hm;rw [W7,eb];obtain ⟨h1,h2⟩:=Vj prs ob q.2 s (by omega) (ob.ok q hm) (by omega);exact ⟨h1,Int.le_trans h2 (W4 (by omega))⟩
termination_by sh s=>(s,sizeOf sh)
decreasing_by
 all_goals simp only [Prod.lex_def]
 all_goals first | (right;exact ⟨trivial,by simp;omega⟩) | (right;exact ⟨rfl,by simp;omega⟩) | (right;exact ⟨trivial,by simp⟩) | (left;omega) | (by_cases c:f<s;(left;exact c);(right;exact ⟨by omega,by simp;omega⟩)) | (by_cases c:s - f<s;(left;exact c);(right;exact ⟨by omega,by simp;omega⟩)) | (right;simp) | (right;simp;omega)
theorem UQ (prs:aL) (ob:cg prs):∀ (ps:List Sh) (s:Nat),s<=45->Xg prs ps->aP ps<=1000->0<=YD (aD prs) ps s/\YD (aD prs) ps s<=2^(300*s+12*aP ps)
 | [],s,hs,h,hw=>by
  rw [Xw]
  split
  ·exact ⟨by decide,Int.le_trans (by decide:(1:Int)<=2^0) (W4 (Nat.zero_le _))⟩
  ·exact ⟨Int.le_refl _,Int.le_of_lt (Int.pow_pos (by decide))⟩
 | p::ps,s,hs,h,hw=>by
  rw [Xg] at h
  have ew:aP (p::ps)=wt p+aP ps:=by rw [aP]
  have wp:=VS p;rw [XT];obtain ⟨h1,h2⟩:=Ju (B:=2^(300*s+(12*wt p - 6)+12*aP ps)) (l:=(List.range (s+1)).map fun f=>cnt (aD prs) p f*YD (aD prs) ps (s - f)) (fun x hx=>by
   obtain ⟨f,hf,rfl⟩:=List.mem_map.mp hx;have hf:=List.mem_range.mp hf;obtain ⟨a1,a2⟩:=Vj prs ob p f (by omega) h.1 (by omega);obtain ⟨b1,b2⟩:=UQ prs ob ps (s - f) (by omega) h.2 (by omega);obtain ⟨c1,c2⟩:=Yhd a1 a2 b1 b2;refine ⟨c1,Int.le_trans c2 (W4 ?_)⟩;omega)
  refine ⟨h1,Int.le_trans h2 ?_⟩;rw [List.length_map,List.length_range];exact Int.le_trans (Yhe (by omega)) (W4 (by omega))
termination_by ps s=>(s,sizeOf ps)
decreasing_by
 all_goals simp only [Prod.lex_def]
 all_goals first | (right;exact ⟨trivial,by simp;omega⟩) | (right;exact ⟨rfl,by simp;omega⟩) | (right;exact ⟨trivial,by simp⟩) | (left;omega) | (by_cases c:f<s;(left;exact c);(right;exact ⟨by omega,by simp;omega⟩)) | (by_cases c:s - f<s;(left;exact c);(right;exact ⟨by omega,by simp;omega⟩)) | (right;simp) | (right;simp;omega)
theorem Jv (prs:aL) (ob:cg prs):∀ (ps:List Sh) (s:Nat),s<=45->Xg prs ps->aP ps<=1000->0<=(ps.map fun p=>cnt (aD prs) p s).sum/\(ps.map fun p=>cnt (aD prs) p s).sum<=2^(300*s+12*aP ps)
 | [],s,hs,h,hw=>⟨Int.le_refl _,Int.le_of_lt (Int.pow_pos (by decide))⟩
 | p::ps,s,hs,h,hw=>by
  rw [Xg] at h
  have ew:aP (p::ps)=wt p+aP ps:=by rw [aP]
  have wp:=VS p;obtain ⟨a1,a2⟩:=Vj prs ob p s hs h.1 (by omega);obtain ⟨b1,b2⟩:=Jv prs ob ps s hs h.2 (by omega);rw [List.map_cons,List.sum_cons];have c1:=Int.le_trans a2 (W4 (show 300*s+(12*wt p - 6)<=300*s+12*aP (p::ps) - 1 by omega));have c2:=Int.le_trans b2 (W4 (show 300*s+12*aP ps<=300*s+12*aP (p::ps) - 1 by omega));obtain ⟨n,hn⟩:∃ n,300*s+12*aP (p::ps)=n+1:=⟨300*s+12*aP (p::ps) - 1,by omega⟩;rw [hn,Nat.add_sub_cancel] at c1 c2
  rw [hn,Int.pow_succ];omega
termination_by ps s=>(s,sizeOf ps)
decreasing_by
 all_goals simp only [Prod.lex_def]
 all_goals first | (right;exact ⟨trivial,by simp;omega⟩) | (right;exact ⟨rfl,by simp;omega⟩) | (right;exact ⟨trivial,by simp⟩) | (left;omega) | (by_cases c:f<s;(left;exact c);(right;exact ⟨by omega,by simp;omega⟩)) | (by_cases c:s - f<s;(left;exact c);(right;exact ⟨by omega,by simp;omega⟩)) | (right;simp) | (right;simp;omega)
end
mutual
theorem UR:∀ sh:Sh,KO (kd sh)
 | .w _ _=>by rw [kd];exact .tup (.cons (.str _) (.cons (.int _) (.cons (.int _) .nil)))
 | .row ps=>by rw [kd];exact .tup (.cons (.str _) (.cons (.tup (Jw ps)) .nil))
 | .pick mk ps=>by rw [kd];exact .tup (.cons (.str _) (.cons (.tup (Jx mk ps)) .nil))
 | .use _=>by rw [kd];exact .tup (.cons (.str _) (.cons (.str _) .nil))
theorem Jw:∀ ps:List Sh,eX (bQ ps)
 | []=>by rw [bQ];exact .nil
 | p::ps=>by rw [bQ];exact .cons (UR p) (Jw ps)
theorem Jx:∀ (mk:List (List Nat)) (ps:List Sh),eX (kdp mk ps)
 | m::mk,p::ps=>by rw [kdp];exact .cons (.tup (.cons (.str _) (.cons (UR p) .nil))) (Jx mk ps)
 | [],_=>by simp only [kdp];exact .nil
 | _::_,[]=>by simp only [kdp];exact .nil
end
theorem Xe {K:W.Frag} {H:Hp} {v:V} {ds:List PyData} (h:Den K H v (.tuple ds)):∃ b vs,v = .ref b/\au K H b vs/\aX K H vs ds:=by
 cases h with
 | tup h1 h2=>exact ⟨_,_,rfl,h1,h2⟩
theorem WF {K:W.Frag} {H:Hp} {v:V} {x:Str} (h:Den K H v (.str x)):v = .str x:=by cases h;rfl
theorem US {K:W.Frag} {H:Hp} {v:V} {x:Int} (h:Den K H v (.int x)):v = .int x:=by cases h;rfl
theorem YY {K:W.Frag} {H:Hp} {vs:List V} {d:PyData} {ds:List PyData} (h:aX K H vs (d::ds)):∃ v r,vs=v::r/\Den K H v d/\aX K H r ds:=by
 cases h with
 | cons h1 h2=>exact ⟨_,_,rfl,h1,h2⟩
theorem XU {K:W.Frag} {H:Hp} {vs:List V} (h:aX K H vs []):vs=[]:=by cases h;rfl
theorem z6 (sh:Sh):∃ ds,kd sh = .tuple ds:=by cases sh<;>exact ⟨_,by rw [kd]⟩
theorem Qf {K:W.Frag} {H:Hp}:∀ {ps:List Sh} {vs:List V},aX K H vs (bQ ps)->∃ bs:List Addr,vs=bs.map V.ref/\bs.length=ps.length/\∀ (i:Nat) b q,bs[i]?=some b->ps[i]?=some q->Den K H (.ref b) (kd q)
 | [],vs,h=>by
  rw [bQ] at h
  exact ⟨[],XU h,rfl,fun i b q h=>by simp at h⟩
 | p::ps,vs,h=>by
  rw [bQ] at h
  obtain ⟨v,r,rfl,h1,h2⟩:=YY h;obtain ⟨bs,rfl,hl,hb⟩:=Qf h2;obtain ⟨ds,hd⟩:=z6 p;obtain ⟨b,_,rfl,_,_⟩:=Xe (by rw [hd] at h1;exact h1);refine ⟨b::bs,rfl,by simp [hl],fun i b' q e1 e2=>?_⟩
  cases i with
  | zero =>
   have z1:b=b':=Option.some.inj e1;have z2:p=q:=Option.some.inj e2;subst z1 z2;exact h1
  | succ i=>exact hb i b' q (by simpa using e1) (by simpa using e2)
theorem Uf {K:W.Frag} {H:Hp}:∀ {mk:List (List Nat)} {ps:List Sh} {vs:List V},mk.length=ps.length->aX K H vs (kdp mk ps)->∃ ts bs:List Addr,vs=ts.map V.ref/\ts.length=ps.length/\bs.length=ps.length/\(∀ (i:Nat) T m b,ts[i]?=some T->mk[i]?=some m->bs[i]?=some b->au K H T [.str (S m),.ref b])/\∀ (i:Nat) b q,bs[i]?=some b->ps[i]?=some q->Den K H (.ref b) (kd q)
 | [],[],vs,_,h=>by
  rw [show kdp [] []=[] by simp [kdp]] at h
  exact ⟨[],[],XU h,rfl,rfl,fun i T m b h=>by simp at h,fun i b q h=>by simp at h⟩
 | m::mk,p::ps,vs,hl,h=>by
  rw [kdp] at h
  obtain ⟨v,r,rfl,h1,h2⟩:=YY h;obtain ⟨ts,bs,rfl,l1,l2,hT,hb⟩:=Uf (by simpa using hl) h2;obtain ⟨T,us,rfl,h3,h4⟩:=Xe h1;obtain ⟨u1,r1,rfl,h5,h6⟩:=YY h4;obtain ⟨u2,r2,rfl,h7,h8⟩:=YY h6;have:=XU h8;subst this;have:=WF h5;subst this;obtain ⟨ds,hd⟩:=z6 p;obtain ⟨b,_,rfl,_,_⟩:=Xe (by rw [hd] at h7;exact h7);refine ⟨T::ts,b::bs,rfl,by simp [l1],by simp [l2],fun i T' m' b' e1 e2 e3=>?_,fun i b' q e1 e2=>?_⟩
  ·cases i with
   | zero =>
    have z1:T=T':=Option.some.inj e1;have z2:m=m':=Option.some.inj e2;have z3:b=b':=Option.some.inj e3;subst z1 z2 z3;exact h3
   | succ i=>exact hT i T' m' b' (by simpa using e1) (by simpa using e2) (by simpa using e3)
  ·cases i with
   | zero =>
    have z1:b=b':=Option.some.inj e1;have z2:p=q:=Option.some.inj e2;subst z1 z2;exact h7
   | succ i=>exact hb i b' q (by simpa using e1) (by simpa using e2)
 | [],_::_,_,hl,_=>by simp at hl
 | _::_,[],_,hl,_=>by simp at hl
theorem Jy {q:Sh}:∀ {ps:List Sh},q∈ps->(kd q).depth<=PyData.depthAll (bQ ps)
 | p::ps,h=>by
  rw [bQ];simp only [PyData.depthAll];rcases List.mem_cons.mp h with rfl | h
  ·omega
  ·have:=Jy h
   omega
theorem Jz {q:Sh}:∀ {mk:List (List Nat)} {ps:List Sh},mk.length=ps.length->q∈ps->(kd q).depth<=PyData.depthAll (kdp mk ps)
 | m::mk,p::ps,hl,h=>by
  rw [kdp];simp only [PyData.depthAll,PyData.depth];rcases List.mem_cons.mp h with rfl | h
  ·omega
  ·have:=Jz (mk:=mk) (by simpa using hl) h
   omega
 | [],_::_,hl,_=>by simp at hl
def XV:Sh->List Sh
 | .row ps=>ps
 | .pick _ ps=>ps
 | _=>[]
section
variable {src:List (Option Nat)} {te:TE} {σ:St} {H:Hp} {Q:VK}
theorem Qz {K:W.Frag} {tl:TE} {b:Addr} {xs:List V} (ps:List (V×V)) (ys:List V) (ha:∀ R:V->Hp->Prop,R (.ref b) H->tl σ H R) (hS:au K H b xs) (hp:∀ (i:Nat) x p,xs[i]?=some x->ps[i]?=some p->∃ T,x = .ref T/\au K H T [p.1,p.2]) (hl:ps.length=xs.length) (hl2:ys.length=xs.length) (hlen:xs.length<=100000)
  (step:∀ (i:Nat) p y H',ps[i]?=some p->ys[i]?=some y->Yj H H'->∀ R:VK,(∀ aK,Yj H' aK->R y aK)->te (some p.1::some p.2::YI src σ) H' R)
  (fin:∀ D H',H D=none->Yj H H'->H' D=some (.lst ys)->Q (.ref D) H'):d7 (none::none::src) (tX K tl) (VF K 2 (Xz (YG 0) (Xz (YG 1) V6))) Wa te σ H Q:=by
 refine ha _ ⟨b,rfl,⟨xs,hS⟩,fun D hD=>?_⟩;have h6:100000<sizeLine:=by decide
 refine Vy (Ut.imp fun H' (e:Yj H H')=>e.tup hS) (fun i zs σ' H'=>zs=ys.take i/\(∃ o o',σ'=o::o'::YI src σ)/\Yj H H'/\H' D=some (.lst zs)) ⟨by simp,⟨none,none,rfl⟩,.aj hD _,Yd⟩ (fun i zs σ' H' p=>⟨p.2.2.1,p.2.2.2⟩) (U7 K 0 1) ?_ ?_
 ·rintro i zs σ' H' x hx ⟨rfl,⟨o,o',rfl⟩,sm,hd⟩
  have hi:=(List.getElem?_eq_some_iff.mp hx).1;have hy:ys[i]?=some (ys[i]'(by omega)):=List.getElem?_eq_getElem _;have hpi:ps[i]?=some (ps[i]'(by omega)):=List.getElem?_eq_getElem _;obtain ⟨T,rfl,hT⟩:=hp i x _ hx hpi;refine ⟨T,_,rfl,sm.tup hT,rfl,_,_,rfl,_,_,rfl,rfl,?_⟩;refine step i _ _ H' hpi hy sm _ fun aK s2=>⟨s2 _ _ hd,?_,(Xn hy).symm,⟨_,_,rfl⟩,.cO hD (sm.trans s2) _,Yd⟩
  rw [List.length_take];omega
 ·rintro zs σ' H' ⟨rfl,_,sm,hd⟩
  rw [<- hl2,List.take_length] at hd
  exact fin D H' hD sm hd
theorem Ydb {K:W.Frag} {tl:TE} (G:Addr->List V->Hp->Prop) (ha:∀ R:V->Hp->Prop,(∀ b xs H1,G b xs H1->R (.ref b) H1)->tl σ H R)
  (hb:∀ b xs H1,G b xs H1->ao K H1 b xs/\xs.length<=100000/\∃ I:Addr->Nat->List V->Hp->Prop,(∀ D,H1 D=none->I D 0 [] (upd H1 D (.lst [])))/\(∀ D i zs H',H1 D=none->I D i zs H'->zs.length=i/\H' D=some (.lst zs)/\ao K H' b xs) /\
   (∀ D (i:Nat) x zs H',H1 D=none->xs[i]?=some x->I D i zs H'->∀ R:VK,(∀ y aK,aK D=some (.lst zs)->I D (i+1) (zs++[y]) (upd aK D (.lst (zs++[y])))->R y aK)->te (some x::YI src σ) H' R) /\
   (∀ D zs H',H1 D=none->I D xs.length zs H'->Q (.ref D) H')):d7 (none::src) (W0 K tl) (YG 0) Wa te σ H Q:=by
 refine ha _ fun b xs H1 hG=>?_
 obtain ⟨hS,hlen,I,i0,dl,step,fin⟩:=hb b xs H1 hG;refine ⟨b,rfl,⟨xs,hS⟩,fun D hD=>?_⟩;have h6:100000<sizeLine:=by decide
 refine Vy Ws (fun i zs σ' H'=>(∃ o,σ'=o::YI src σ)/\i<=xs.length/\I D i zs H') ⟨⟨none,rfl⟩,Nat.zero_le _,i0 D hD⟩ (fun i zs σ' H' q=>⟨(dl _ _ _ _ hD q.2.2).2.2,(dl _ _ _ _ hD q.2.2).2.1⟩) (X3 0) ?_ ?_
 ·rintro i zs σ' H' x hx ⟨⟨o,rfl⟩,_,hI⟩
  have hi:i<xs.length:=(List.getElem?_eq_some_iff.mp hx).1;have hl:=(dl _ _ _ _ hD hI).1
  show te (some x::YI src σ) H' _
  exact step D i x zs H' hD hx hI _ fun y aK hd hI'=>⟨hd,by omega,⟨_,rfl⟩,hi,hI'⟩
 ·rintro zs σ' H' ⟨_,_,hI⟩
  exact fin D zs H' hD hI
end
theorem VG {K:W.Frag} {H:Hp} {a:Addr} {x:Str} {d:PyData} (h:Den K H (.ref a) (.tuple [.str x,d])):∃ v,au K H a [.str x,v]/\Den K H v d:=by
 obtain ⟨b,vs,e,h1,h2⟩:=Xe h;have:=V.ref.inj e;subst this;obtain ⟨u1,r1,rfl,h5,h6⟩:=YY h2;obtain ⟨u2,r2,rfl,h7,h8⟩:=YY h6;have:=XU h8;subst this;have:=WF h5;subst this;exact ⟨u2,h1,h7⟩
theorem Yfl {q:Sh} {prs:aL} {sh:Sh} (hok:aH prs sh) (h:q∈XV sh):(kd q).depth<=(kd sh).depth:=by
 cases sh with
 | row ps =>
  have:=Jy (ps:=ps) h;rw [show kd (.row ps) = .tuple [.str "row",.tuple (bQ ps)] by rw [kd]];simp only [PyData.depth,PyData.depthAll];omega
 | pick mk ps =>
  rw [aH] at hok
  have:=Jz (ps:=ps) hok.1 h;rw [show kd (.pick mk ps) = .tuple [.str "pick",.tuple (kdp mk ps)] by rw [kd]];simp only [PyData.depth,PyData.depthAll];omega
 | _=>cases h
theorem JB {K:W.Frag} {H:Hp} {a b:Addr} {prs:aL} {sh q:Sh} (hk:DK K H a (kd sh)) (hok:aH prs sh) (h:q∈XV sh) (hb:Den K H (.ref b) (kd q)):DK K H b (kd q):=⟨hb,UR q,Nat.le_trans (Yfl hok h) hk.dp⟩
inductive z7 (K:W.Frag) (vs:List V) (H:Hp) (Q:VK) (E_:XK):Prop
 | mk (prs:aL) (a:Addr) (sh:Sh) (h0:vs=[.ref a]) (h1:DK K H a (kd sh)) (h2:aH prs sh) (h3:(kind sh=2\/kind sh=3)) (h4:∀ D (bs:List Addr) H',Yj H H'->H D=none->H' D=some (.lst (bs.map V.ref))->bs.length=(XV sh).length->(∀ (i:Nat) b q,bs[i]?=some b->(XV sh)[i]?=some q->DK K H b (kd q))->Q (.ref D) H')
theorem YbB {Z6 Z5 Z1 Z2 Z4 Z3 Z0:Addr} (R:g.Raw "parts_of" "parts_of" xO ["shape"]) (aR:g.mg "list"=none):g.Fn (1) "parts_of" ["shape"] (z7 g.K):=by
 refine R.fn HY (fun vs H Q E h=>by obtain ⟨prs,a,sh,rfl,hk,hok,hki,q⟩:=h;rfl) fun f_ cdv A outer s H vs Q E hr h=>?_
 obtain ⟨prs,a,sh,rfl,hk,hok,hki,q⟩:=h;refine ⟨_,(@Ye _ _ _ _ _ (@Yz _ _ (1) _ _ _ _ HY.nd rfl (.inl rfl) (@Yo _ _ _ _ _ _ _ Ys (pv 0) Yh (fun _ _=>rfl)) (by rfl) (by first | exact .inl rfl | exact .inr rfl | assumption)) (@Ye _ _ _ _ _ (@Yy _ _ _ _ _ _ _ _ (@Yl _ _ _ _ _ _ _ _ YC (pv 1) Yk (Yn _)) (@Yf _ _ _ (@Ym _ _ _ _ (@Vz _ _ _ _ _ _ _ _ _ _ aR Vg (@Ya _ _ _ _ _ (@Yo _ _ _ _ _ _ _ Ys (pv 0) Yh (fun _ _=>rfl)) Yb (by rfl)) (by decide +kernel) (by rfl) (by rfl) (by decide) (by decide) (by rfl) (by rfl)))) Yq) (@Ye _ _ _ _ _ (@Yy _ _ _ _ _ _ _ _ (@Yl _ _ _ _ _ _ _ _ YC (pv 1) Yk (Yn _)) (@Yf _ _ _ (@Ym _ _ _ _ (@X2 _ _ _ _ _ _ _ ([none,none]) ((["mark","part"]:List Str)) _ (VF g.K 2 (Xz (YG 0) (Xz (YG 1) V6))) _ _ (.own (.own .nil)) rfl (@Qk _ _ _ _ (@Yo _ _ _ _ _ _ _ Ys (pv 0) Yh (fun _ _=>rfl))) (fun cl C s₀ H₀ fp pn=>(@VI _ _ _ _ _ (2) rfl (@Xk _ _ _ _ _ (@YK _ _ (0) _ (show List.Nodup (["mark","part"]:List Str) by decide +kernel) rfl (.inl rfl) (.inr rfl)) (@Xk _ _ _ _ _ (@YK _ _ (1) _ (show List.Nodup (["mark","part"]:List Str) by decide +kernel) rfl (.inl rfl) (.inr rfl)) W6 (by rfl)) (by rfl)) (by rfl) (by rfl))) (fun cl C s₀ H₀ fp pn=>Xc) (fun cl C s₀ H₀ fp pn=>(pv 1)) (by intro x hx;simp at hx) (by rfl) (by decide) (by decide +kernel) (by intro _;rfl)))) Yq) (@Ye _ _ _ _ _ Y4 (@Yf _ _ _ Y4))))),?_⟩;walk_at "rd"
 cases sh with
 | row ps =>
  have hd:=hk.den;rw [kd] at hd
  obtain ⟨v,hT,hv⟩:=VG hd;obtain ⟨b,vs,rfl,hb,hvs⟩:=Xe hv;obtain ⟨bs,rfl,hl,hbs⟩:=Qf hvs;exact ⟨_,hT,_,Yr (j:=0) rfl,Xj _ _,WY rfl ⟨_,hT,_,Yr (j:=1) rfl,b,rfl,_,.inr hb,fun l hl'=>q l bs _ (.aj hl' _) hl' Yd hl fun i b' q' h1 h2=>JB hk hok (List.mem_of_getElem? h2) (hbs i b' q' h1 h2)⟩⟩
 | pick mk ps =>
  have hd:=hk.den;have hok':=hok;rw [aH] at hok'
  rw [kd] at hd
  obtain ⟨v,hT,hv⟩:=VG hd;obtain ⟨b,vs,rfl,hb,hvs⟩:=Xe hv;obtain ⟨ts,bs,rfl,hl1,hl2,hts,hbs⟩:=Uf hok'.1 hvs;refine ⟨_,hT,_,Yr (j:=0) rfl,Xj _ _,XG (by decide +kernel) ⟨Xj _ _,WY rfl ?_⟩⟩;have hlz:((mk.zip bs).map fun p=>(V.str (S p.1),V.ref p.2)).length=bs.length:=by rw [List.length_map,List.length_zip];omega
  refine Qz (K:=g.K) (b:=b) (xs:=ts.map V.ref) ((mk.zip bs).map fun p=>(V.str (S p.1),V.ref p.2)) (bs.map V.ref) (fun R r=>by walk_at "rd";exact ⟨_,hT,_,Yr (j:=1) rfl,r⟩) hb ?_ (by rw [hlz,List.length_map];omega) (by rw [List.length_map,List.length_map];omega) (by rw [List.length_map];omega) ?_ ?_
  ·intro i x p hx hp
   rw [List.getElem?_map] at hx hp
   obtain ⟨T,hT',rfl⟩:=Option.map_eq_some_iff.mp hx;obtain ⟨⟨m,b'⟩,hz,rfl⟩:=Option.map_eq_some_iff.mp hp;rw [List.getElem?_zip_eq_some] at hz
   exact ⟨T,rfl,hts i T m b' hT' hz.1 hz.2⟩
  ·intro i p y H' hp hy sm R r
   rw [List.getElem?_map] at hp hy
   obtain ⟨⟨m,b'⟩,hz,rfl⟩:=Option.map_eq_some_iff.mp hp;rw [List.getElem?_zip_eq_some] at hz
   rw [hz.2] at hy
   have:V.ref b'=y:=Option.some.inj hy;subst this;walk_at "rd";exact r H' (.refl _)
  ·intro D H' hD sm hd'
   exact q D bs H' sm hD hd' hl2 fun i b' q' h1 h2=>JB hk hok (List.mem_of_getElem? h2) (hbs i b' q' h1 h2)
 | _=>simp [kind] at hki
def t0 (U:Addr->Prop):Sw:=⟨fun _=>0,fun _ _=>0,U⟩
structure BI (C:Cs) (w:Wo) (U O:Addr->Prop) (H:Hp):Prop where
 at_:∀ p sh,w.reg p=some sh->¬ O p->Ww C w (t0 U) H p sh
 op:∀ p,O p->∃ x dx c,w.reg p=some (.use x)/\Un w (t0 U) p/\(∀ s,s<=45->sm (cnt w.bk (.use x) s))/\H p=some (.ins C.use dx (mf c (fU .non)))/\w.D c=some (p,0)/\H c=some (.lst [])
 al:∀ b,U b->H b≠none
 ow:∀ b x,w.D b=some x->U b
 oo:∀ b q i,w.D b=some (q,i)->U q
 inj:∀ b b' x,w.D b=some x->w.D b'=some x->b=b'
structure WG (w w':Wo) (U U':Addr->Prop) (H:Hp):Prop where
 bk:w'.bk=w.bk
 M:w'.M=w.M
 reg:∀ p sh,w.reg p=some sh->w'.reg p=some sh
 D:∀ b,U b->w'.D b=w.D b
 u1:∀ b,U b->U' b
 u2:∀ b,U' b->U b\/H b=none
theorem WG.refl (w:Wo) (U:Addr->Prop) (H:Hp):WG w w U U H:=⟨rfl,rfl,fun _ _ h=>h,fun _ _=>rfl,fun _ h=>h,fun _ h => .inl h⟩
theorem WG.trans {w w1 w2:Wo} {U U1 U2:Addr->Prop} {H H1:Hp} (a:WG w w1 U U1 H) (b:WG w1 w2 U1 U2 H1) (h:∀ x,H x≠none->H1 x≠none):WG w w2 U U2 H :=
 ⟨b.bk.trans a.bk,b.M.trans a.M,fun p sh e=>b.reg p sh (a.reg p sh e),fun x e=>(b.D x (a.u1 x e)).trans (a.D x e),fun x e=>b.u1 x (a.u1 x e),fun x e=>by
  rcases b.u2 x e with e | e
  ·exact a.u2 x e
  ·cases c:H x with
   | none=>exact .inr rfl
   | some o=>exact absurd e (h x (by rw [c];intro z;cases z))⟩
theorem WR.grow {w w':Wo} {U U':Addr->Prop} {H:Hp} (G:WG w w' U U' H) {as:List Addr} {ps:List Sh} (h:WR w.reg as ps):WR w'.reg as ps:=⟨h.1,fun i a p h1 h2=>G.reg _ _ (h.2 i a p h1 h2)⟩
theorem WR.toM {w:Wo} {U:Addr->Prop} {p:Addr} {as:List Addr} {ps:List Sh} (h:WR w.reg as ps):eO w (t0 U) p as ps:=⟨h.1,h.2,fun _ _ _=>Nat.le_refl _⟩
theorem WR.toC {w:Wo} {U:Addr->Prop} {p:Addr} {as:List Addr} {ps:List Sh} (h:WR w.reg as ps):fD w (t0 U) p as ps:=⟨h.1,h.2,fun _ _=>Nat.le_refl _⟩
theorem eO.grow {w w':Wo} {U U':Addr->Prop} {H:Hp} {p:Addr} (G:WG w w' U U' H) {as:List Addr} {ps:List Sh} (h:eO w (t0 U) p as ps):eO w' (t0 U') p as ps:=⟨h.1,fun i a p h1 h2=>G.reg _ _ (h.2 i a p h1 h2),fun _ _ _=>Nat.le_refl _⟩
theorem fD.grow {w w':Wo} {U U':Addr->Prop} {H:Hp} {p:Addr} (G:WG w w' U U' H) {as:List Addr} {ps:List Sh} (h:fD w (t0 U) p as ps):fD w' (t0 U') p as ps:=⟨h.1,fun i a p h1 h2=>G.reg _ _ (h.2 i a p h1 h2),fun _ _=>Nat.le_refl _⟩
theorem Sub.grow {C:Cs} {w w':Wo} {U U':Addr->Prop} {H H' H0:Hp} {p:Addr} (G:WG w w' U U' H0) (ow:∀ b x,w.D b=some x->U b) (hk:∀ b o,U b->H b=some o->H' b=some o):∀ {sh:Sh} {fs:List (Str×V)},Sub C w (t0 U) H p sh fs->Sub C w' (t0 U') H' p sh fs
 | .w lo span,fs,h=>h
 | .row ps,fs,h=>by
  obtain ⟨P,T,dt,L,as,ws,h1,h2,h3,h4,h5,h6,h7,h8,h9,h10,h11,h12⟩:=h;have un:∀ {b:Addr},Un w (t0 U) b->Un w' (t0 U') b:=fun z=>⟨(G.D _ z.2).trans z.1,G.u1 _ z.2⟩
  refine ⟨P,T,dt,L,as,ws,h1,un h2,un h3,un h4,hk _ _ h2.2 h5,h6.grow G,h7,hk _ _ h3.2 h8,hk _ _ h4.2 h9,h10,fun i x hx=>?_,by rw [G.bk];exact h12⟩;obtain ⟨k1,k2,k3,k4⟩:=h11 i x hx;exact ⟨(G.D _ (ow _ _ k1)).trans k1,k2,k3,by rw [G.bk];exact hk _ _ (ow _ _ k1) k4⟩
 | .pick mk ps,fs,h=>by
  obtain ⟨M,P,as,h1,h2,h3,h4,h5,h6,h7⟩:=h;have un:∀ {b:Addr},Un w (t0 U) b->Un w' (t0 U') b:=fun z=>⟨(G.D _ z.2).trans z.1,G.u1 _ z.2⟩
  exact ⟨M,P,as,h1,un h2,un h3,hk _ _ h2.2 h4,hk _ _ h3.2 h5,h6.grow G,h7⟩
 | .use x,fs,⟨a,h1,h2,_⟩=>⟨a,h1,by rw [G.bk];exact G.reg _ _ h2,Nat.zero_le _⟩
theorem Ww.grow {C:Cs} {w w':Wo} {U U':Addr->Prop} {H H' H0:Hp} {p:Addr} {sh:Sh} (G:WG w w' U U' H0) (ow:∀ b x,w.D b=some x->U b) (hk:∀ b o,U b->H b=some o->H' b=some o) (h:Ww C w (t0 U) H p sh):Ww C w' (t0 U') H' p sh:=by
 obtain ⟨dx,c,fs,h1,h2,h3,h4,h5,h6,h7,h8⟩:=h;exact ⟨dx,c,fs,⟨(G.D _ h1.2).trans h1.1,G.u1 _ h1.2⟩,by rw [G.M];exact h2,by rw [G.bk];exact h3,h4,hk _ _ h1.2 h5,(G.D _ (ow _ _ h6)).trans h6,by rw [G.bk];exact hk _ _ (ow _ _ h6) h7,h8.grow G ow hk⟩
theorem BI.keep {C:Cs} {w:Wo} {U O:Addr->Prop} {H H':Hp} (B:BI C w U O H) (hk:∀ b o,U b->H b=some o->H' b=some o):BI C w U O H':=by
 refine ⟨fun p sh hr ho=>(B.at_ p sh hr ho).grow (.refl w U H) B.ow hk,fun p hp=>?_,fun b hb=>?_,B.ow,B.oo,B.inj⟩
 ·obtain ⟨x,dx,c,h1,h2,h3,h4,h5,h6⟩:=B.op p hp
  exact ⟨x,dx,c,h1,h2,h3,hk _ _ h2.2 h4,h5,hk _ _ (B.ow _ _ h5) h6⟩
 ·cases e:H b with
  | none=>exact absurd e (B.al b hb)
  | some o=>rw [hk b o hb e];intro z;cases z
def Wo.add (w:Wo) (p:Addr) (sh:Sh) (os:List Addr):Wo:={ w with reg:=fun q=>if q=p then some sh else w.reg q,D:=fun b=>if b∈os then some (p,os.idxOf b) else w.D b }
def Ua (U:Addr->Prop) (os ss:List Addr):Addr->Prop:=fun b=>U b\/b∈os\/b∈ss
theorem BI.Ou {C:Cs} {w:Wo} {U O:Addr->Prop} {H:Hp} (B:BI C w U O H) {p:Addr} {sh:Sh} (h:w.reg p=some sh):U p:=by
 by_cases o:O p
 ·obtain ⟨x,dx,c,h1,h2,_⟩:=B.op p o
  exact h2.2
 ·obtain ⟨dx,c,fs,h1,_⟩:=B.at_ p sh h o
  exact h1.2
theorem Ygu {os:List Addr} {a b:Addr} (ha:a∈os) (hb:b∈os) (h:os.idxOf a=os.idxOf b):a=b:=by
 have h1:=List.getElem_idxOf (List.idxOf_lt_length_of_mem ha);have h2:=List.getElem_idxOf (List.idxOf_lt_length_of_mem hb);have:os[os.idxOf a]'(List.idxOf_lt_length_of_mem ha)=os[os.idxOf b]'(List.idxOf_lt_length_of_mem hb):=by congr 1
 rw [h1,h2] at this
 exact this
theorem JC:∀ {os:List Addr} {i:Nat} {a:Addr},os.Nodup->os[i]?=some a->os.idxOf a=i
 | b::os,0,a,hn,h=>by
  have:b=a:=Option.some.inj h;subst this;exact List.idxOf_cons_self
 | b::os,i+1,a,hn,h=>by
  have h':os[i]?=some a:=by simpa using h
  have hne:b≠a:=fun z=>by
   rw [List.nodup_cons] at hn
   exact hn.1 (by rw [z];exact List.mem_of_getElem? h')
  have ih:=JC (List.nodup_cons.mp hn).2 h';rw [List.idxOf_cons,ih];have e:(b==a)=false:=by simpa using hne
  rw [e];rfl
structure New (H H':Hp) (U:Addr->Prop) (p:Addr) (os ss:List Addr):Prop where
 nu:∀ b,b∈os\/b∈ss->¬ U b
 inn:p∈ss
 nd:os.Nodup
 ap:∀ b∈os,b∉ss
 keep:∀ b o,U b->H b=some o->H' b=some o
 there:∀ b,b∈os\/b∈ss->H' b≠none
theorem New.wg {C:Cs} {w:Wo} {U O:Addr->Prop} {H H' H0:Hp} {p:Addr} {os ss:List Addr} (N:New H H' U p os ss) (B:BI C w U O H) (sh:Sh) (h0:∀ b,b∈os\/b∈ss->H0 b=none):WG w (w.add p sh os) U (Ua U os ss) H0:=by
 refine ⟨rfl,rfl,fun q s e=>?_,fun b hb=>?_,fun b h => .inl h,fun b h=>?_⟩
 ·show (if q=p then some sh else w.reg q)=some s
  rw [if_neg fun z=>?_]
  ·exact e
  ·subst z
   exact N.nu _ (.inr N.inn) (B.Ou e)
 ·show (if b∈os then _ else w.D b)=w.D b
  rw [if_neg fun z=>N.nu _ (.inl z) hb]
 ·rcases h with h | h
  ·exact .inl h
  ·exact .inr (h0 b h)
theorem New.un {C:Cs} {w:Wo} {U O:Addr->Prop} {H H':Hp} {p:Addr} {os ss:List Addr} (N:New H H' U p os ss) (B:BI C w U O H) (sh:Sh) {b:Addr} (hb:b∈ss):Un (w.add p sh os) (t0 (Ua U os ss)) b:=by
 refine ⟨?_,.inr (.inr hb)⟩
 show (if b∈os then _ else w.D b)=none
 rw [if_neg fun z=>N.ap b z hb]
 cases e:w.D b with
 | none=>rfl
 | some x=>exact absurd (B.ow b x e) (N.nu b (.inr hb))
theorem New.dat {w:Wo} {U:Addr->Prop} {H H':Hp} {p:Addr} {os ss:List Addr} (N:New H H' U p os ss) (sh:Sh) {i:Nat} {b:Addr} (hb:os[i]?=some b):(w.add p sh os).D b=some (p,i):=by
 show (if b∈os then some (p,os.idxOf b) else w.D b)=_
 rw [if_pos (List.mem_of_getElem? hb),JC N.nd hb]
theorem New.bi {C:Cs} {w:Wo} {U O O':Addr->Prop} {H H':Hp} {p:Addr} {os ss:List Addr} {sh:Sh} (N:New H H' U p os ss) (B:BI C w U O H) (h1:∀ q,q≠p->(O' q↔O q)) (hm:¬ O' p->Ww C (w.add p sh os) (t0 (Ua U os ss)) H' p sh)
  (ho:O' p->∃ x dx c,sh = .use x/\Un (w.add p sh os) (t0 (Ua U os ss)) p/\(∀ s,s<=45->sm (cnt w.bk (.use x) s))/\H' p=some (.ins C.use dx (mf c (fU .non)))/\(w.add p sh os).D c=some (p,0)/\H' c=some (.lst [])):BI C (w.add p sh os) (Ua U os ss) O' H':=by
 have G:=N.wg (H0:=fun _=>none) B sh fun _ _=>rfl
 have hpr:∀ {q:Addr} {s:Sh},(w.add p sh os).reg q=some s->q≠p->w.reg q=some s:=fun {q s} e n=>by
  have:(if q=p then some sh else w.reg q)=some s:=e
  rwa [if_neg n] at this
 refine ⟨fun q s hq ho'=>?_,fun q hq=>?_,fun b hb=>?_,fun b x e=>?_,fun b q i e=>?_,fun b b' x e e'=>?_⟩
 ·by_cases c:q=p
  ·subst c
   have:(if q=q then some sh else w.reg q)=some s:=hq;rw [if_pos rfl] at this
   have:=Option.some.inj this;subst this;exact hm ho'
  ·exact (B.at_ q s (hpr hq c) fun z=>ho' ((h1 q c).mpr z)).grow G B.ow N.keep
 ·by_cases c:q=p
  ·subst c
   obtain ⟨x,dx,c,e1,e2,e3,e4,e5,e6⟩:=ho hq;subst e1;exact ⟨x,dx,c,if_pos rfl,e2,e3,e4,e5,e6⟩
  ·obtain ⟨x,dx,c',e1,e2,e3,e4,e5,e6⟩:=B.op q ((h1 q c).mp hq)
   exact ⟨x,dx,c',G.reg _ _ e1,⟨(G.D _ e2.2).trans e2.1,G.u1 _ e2.2⟩,e3,N.keep _ _ e2.2 e4,(G.D _ (B.ow _ _ e5)).trans e5,N.keep _ _ (B.ow _ _ e5) e6⟩
 ·rcases hb with hb | hb
  ·cases e:H b with
   | none=>exact absurd e (B.al b hb)
   | some o=>rw [N.keep b o hb e];intro z;cases z
  ·exact N.there b hb
 ·have e:(if b∈os then some (p,os.idxOf b) else w.D b)=some x:=e
  by_cases c:b∈os
  ·exact .inr (.inl c)
  ·rw [if_neg c] at e
   exact .inl (B.ow b x e)
 ·have e:(if b∈os then some (p,os.idxOf b) else w.D b)=some (q,i):=e
  by_cases c:b∈os
  ·rw [if_pos c] at e
   injection e with e
   injection e with e _
   rw [<- e];exact .inr (.inr N.inn)
  ·rw [if_neg c] at e
   exact .inl (B.oo b q i e)
 ·have e:(if b∈os then some (p,os.idxOf b) else w.D b)=some x:=e
  have e':(if b'∈os then some (p,os.idxOf b') else w.D b')=some x:=e';have nop:∀ {y:Addr} {i:Nat},w.D y=some (p,i)->False:=fun z=>N.nu _ (.inr N.inn) (B.oo _ _ _ z)
  by_cases c:b∈os
  ·rw [if_pos c] at e
   by_cases c':b'∈os
   ·rw [if_pos c'] at e'
    rw [<- e'] at e
    injection e with e
    injection e with _ e
    exact Ygu c c' e
   ·rw [if_neg c',<- e] at e'
    exact (nop e').elim
  ·rw [if_neg c] at e
   by_cases c':b'∈os
   ·rw [if_pos c'] at e'
    rw [<- e'] at e
    exact (nop e).elim
   ·rw [if_neg c'] at e'
    exact B.inj b b' x e e'
theorem BI.wi {C:Cs} {w:Wo} {U O:Addr->Prop} {H:Hp} (B:BI C w U O H) (h:∀ p,¬ O p):WI C w (t0 U) H:=⟨fun p sh e=>B.at_ p sh e (h p),B.al,B.ow,B.inj⟩
theorem XW {fs:List (Str×V)} (h:fs.length<=3):fs.length<1000:=by omega
def isC (C:Cs) (c:Addr):Prop:=c=C.w\/c=C.row\/c=C.pick\/c=C.use
inductive pW (C:Cs) (vs:List V) (H:Hp) (Q:VK) (E_:XK):Prop
 | mk (p dx cl:Addr) (h0:vs=[.ref p]) (h1:isC C cl) (h2:H p=some (.ins cl dx [])) (h3:∀ c,H c=none->Q .non (upd (upd H c (.lst [])) p (.ins cl dx [("counts",.ref c)])))
theorem Z4C {Z6 Z5 Z1 Z2 Z4 Z3 Z0:Addr} (R:g.ju "Maker" "__init__" "Maker.__init__" zK ["self"]) (Za:Cls g.K Z1) (Z9:Yc g.K Z1 "counts") (Zg:Yc g.K Z1 "marks") (Ze:Yc g.K Z1 "parts") (Zh:Cls g.K Z2) (Zb:Yc g.K Z2 "counts") (Zl:Yc g.K Z2 "parts") (Zk:Yc g.K Z2 "table") (Zj:Cls g.K Z3) (Zc:Yc g.K Z3 "counts") (Zi:Yc g.K Z3 "named") (Z8:Cls g.K Z0) (Z7:Yc g.K Z0 "counts") (Zf:Yc g.K Z0 "low") (Zd:Yc g.K Z0 "span"):g.Cf (1) "Maker" "__init__" ["self"] (pW (Cs.mk Z0 Z2 Z4 Z1 Z3)):=by
 refine R.cf Z4A (fun vs H Q E h=>by obtain ⟨p,dx,cl,rfl,hC,hp,q⟩:=h;rfl) fun f_ cdv A outer s H vs Q E hr h=>?_
 obtain ⟨p,dx,cl,rfl,hC,hp,q⟩:=h;refine ⟨_,(@Yf _ _ _ (@Xm _ _ _ _ _ _ _ _ (pv 0) (@Y5 _ _ _ _ Yb) rfl)),?_⟩;walk_at "rd";refine ⟨few (by decide),fun c hc=>⟨cl,dx,[],by rw [Yg (Yt hp hc)];exact hp,?_,?_,by decide,q c hc⟩⟩
 ·rcases hC with rfl | rfl | rfl | rfl<;>assumption
 ·rcases hC with rfl | rfl | rfl | rfl<;>assumption
theorem n1 {a b:Str} (h:(a==b)=false):¬ a=b:=fun z=>by rw [z] at h;simp at h
theorem uZ {f:Str} {v:V} {c:Addr} (h:¬ (("counts":Str)=f)):YZ f v [("counts",.ref c)]=mf c [(f,v)]:=by simp only [YZ,if_neg h];rfl
theorem put2 {f f':Str} {v v':V} {c:Addr} (h:¬ (("counts":Str)=f)) (h2:¬ f'=f):YZ f v (mf c [(f',v')])=mf c [(f',v'),(f,v)]:=by
 show YZ f v [(("counts":Str),V.ref c),(f',v')]=_
 simp only [YZ,if_neg h,if_neg h2];rfl
inductive JD (C:Cs) (vs:List V) (H:Hp) (Q:VK) (E_:XK):Prop
 | mk (p dx:Addr) (lo:Int) (span:Nat) (h0:vs=[.ref p,.int lo,.int (lo+span)]) (h1:H p=some (.ins C.w dx [])) (h2:∀ c H',H c=none->SameBut p H H'->H' p=some (.ins C.w dx (mf c (fW lo span)))->H' c=some (.lst [])->Q .non H')
theorem Z2V {k:Nat} {Z6 Z5 Z1 Z2 Z4 Z3 Z0:Addr} (R:g.bU "WholeMaker" Z0 "WholeMaker.__init__" yZ ["self","low","high"]) (jC:g.Cf k "Maker" "__init__" ["self"] (pW (Cs.mk Z0 Z2 Z4 Z1 Z3))) (Z8:Cls g.K Z0) (Z7:Yc g.K Z0 "counts") (Zf:Yc g.K Z0 "low") (Zd:Yc g.K Z0 "span"):g.Ma (k+1) "WholeMaker" Z0 ["self","low","high"] (JD (Cs.mk Z0 Z2 Z4 Z1 Z3)):=by
 refine R.ma Z2Q (fun vs H Q E h=>by obtain ⟨p,dx,lo,span,rfl,hp,q⟩:=h;rfl) fun f_ cdv A outer s H vs Q E hr h=>?_
 obtain ⟨p,dx,lo,span,rfl,hp,q⟩:=h;refine ⟨_,(@Ye _ _ _ _ _ (@Xb _ _ _ _ (@uM _ _ _ _ _ _ _ _ _ _ _ _ _ _ _ jC hr (@Ya _ _ _ _ _ (pv 0) Yb (by rfl)) (by omega) (by rfl) (by rfl) (by decide) (by rfl) (by rfl) (by rfl)) (by rfl)) (@Ye _ _ _ _ _ (@Xm _ _ _ _ _ _ _ _ (pv 0) (pv 1) rfl) (@Yf _ _ _ (@Xm _ _ _ _ _ _ _ _ (pv 0) (@YR _ _ _ _ _ _ _ _ WO (pv 2) (pv 1)) rfl)))),?_⟩;walk_at "rd";refine ⟨p,dx,_,rfl,.inl rfl,hp,fun c hc=>?_⟩;have hne:p≠c:=Yt hp hc;refine ⟨_,dx,_,Yd,Z8,Zf,XW (show 1<=3 by decide),_,dx,_,Yd,Z8,Zd,XW (Nat.le_trans (Xv _ _ _) (show 2<=3 by decide)),?_⟩;refine q c _ hc (fun x o hx h=>?_) ?_ ?_
 ·rw [Yg hx,Yg hx,Yg hx,Yg (Yt h hc)];exact h
 ·rw [Yd,show lo+(span:Int) - lo=span by omega,uZ (n1 (by decide +kernel)),put2 (n1 (by decide +kernel)) (n1 (by decide +kernel))];rfl
 ·rw [Yg (Ne.symm hne),Yg (Ne.symm hne),Yg (Ne.symm hne),Yd]
inductive JF (C:Cs) (vs:List V) (H:Hp) (Q:VK) (E_:XK):Prop
 | mk (p dx M P:Addr) (h0:vs=[.ref p,.ref M,.ref P]) (h1:H p=some (.ins C.pick dx [])) (h2:∀ c H',H c=none->SameBut p H H'->H' p=some (.ins C.pick dx (mf c (fP M P)))->H' c=some (.lst [])->Q .non H')
theorem Z35 {k:Nat} {Z6 Z5 Z1 Z2 Z4 Z3 Z0:Addr} (R:g.bU "PickMaker" Z1 "PickMaker.__init__" zy ["self","marks","parts"]) (jC:g.Cf k "Maker" "__init__" ["self"] (pW (Cs.mk Z0 Z2 Z4 Z1 Z3))) (Za:Cls g.K Z1) (Z9:Yc g.K Z1 "counts") (Zg:Yc g.K Z1 "marks") (Ze:Yc g.K Z1 "parts"):g.Ma (k+1) "PickMaker" Z1 ["self","marks","parts"] (JF (Cs.mk Z0 Z2 Z4 Z1 Z3)):=by
 refine R.ma Z31 (fun vs H Q E h=>by obtain ⟨p,dx,M,P,rfl,hp,q⟩:=h;rfl) fun f_ cdv A outer s H vs Q E hr h=>?_
 obtain ⟨p,dx,M,P,rfl,hp,q⟩:=h;refine ⟨_,(@Ye _ _ _ _ _ (@Xb _ _ _ _ (@uM _ _ _ _ _ _ _ _ _ _ _ _ _ _ _ jC hr (@Ya _ _ _ _ _ (pv 0) Yb (by rfl)) (by omega) (by rfl) (by rfl) (by decide) (by rfl) (by rfl) (by rfl)) (by rfl)) (@Ye _ _ _ _ _ (@Xm _ _ _ _ _ _ _ _ (pv 0) (pv 1) rfl) (@Yf _ _ _ (@Xm _ _ _ _ _ _ _ _ (pv 0) (pv 2) rfl)))),?_⟩;walk_at "rd";refine ⟨p,dx,_,rfl,.inr (.inr (.inl rfl)),hp,fun c hc=>?_⟩;have hne:p≠c:=Yt hp hc;refine ⟨_,dx,_,Yd,Za,Zg,XW (show 1<=3 by decide),_,dx,_,Yd,Za,Ze,XW (Nat.le_trans (Xv _ _ _) (show 2<=3 by decide)),?_⟩;refine q c _ hc (fun x o hx h=>?_) ?_ ?_
 ·rw [Yg hx,Yg hx,Yg hx,Yg (Yt h hc)];exact h
 ·rw [Yd,uZ (n1 (by decide +kernel)),put2 (n1 (by decide +kernel)) (n1 (by decide +kernel))];rfl
 ·rw [Yg (Ne.symm hne),Yg (Ne.symm hne),Yg (Ne.symm hne),Yd]
inductive JG (C:Cs) (vs:List V) (H:Hp) (Q:VK) (E_:XK):Prop
 | mk (p dx:Addr) (h0:vs=[.ref p]) (h1:H p=some (.ins C.use dx [])) (h2:∀ c H',H c=none->SameBut p H H'->H' p=some (.ins C.use dx (mf c (fU .non)))->H' c=some (.lst [])->Q .non H')
theorem Z3w {k:Nat} {Z6 Z5 Z1 Z2 Z4 Z3 Z0:Addr} (R:g.bU "UseMaker" Z3 "UseMaker.__init__" zF ["self"]) (jC:g.Cf k "Maker" "__init__" ["self"] (pW (Cs.mk Z0 Z2 Z4 Z1 Z3))) (Zj:Cls g.K Z3) (Zc:Yc g.K Z3 "counts") (Zi:Yc g.K Z3 "named"):g.Ma (k+1) "UseMaker" Z3 ["self"] (JG (Cs.mk Z0 Z2 Z4 Z1 Z3)):=by
 refine R.ma Z3p (fun vs H Q E h=>by obtain ⟨p,dx,rfl,hp,q⟩:=h;rfl) fun f_ cdv A outer s H vs Q E hr h=>?_
 obtain ⟨p,dx,rfl,hp,q⟩:=h;refine ⟨_,(@Ye _ _ _ _ _ (@Xb _ _ _ _ (@uM _ _ _ _ _ _ _ _ _ _ _ _ _ _ _ jC hr (@Ya _ _ _ _ _ (pv 0) Yb (by rfl)) (by omega) (by rfl) (by rfl) (by decide) (by rfl) (by rfl) (by rfl)) (by rfl)) (@Yf _ _ _ (@Xm _ _ _ _ _ _ _ _ (pv 0) X5 rfl))),?_⟩;walk_at "rd";refine ⟨p,dx,_,rfl,.inr (.inr (.inr rfl)),hp,fun c hc=>?_⟩;have hne:p≠c:=Yt hp hc;refine ⟨_,dx,_,Yd,Zj,Zi,XW (show 1<=3 by decide),?_⟩;refine q c _ hc (fun x o hx h=>?_) ?_ ?_
 ·rw [Yg hx,Yg hx,Yg (Yt h hc)];exact h
 ·rw [Yd,uZ (n1 (by decide +kernel))];rfl
 ·rw [Yg (Ne.symm hne),Yg (Ne.symm hne),Yd]
inductive JH (C:Cs) (vs:List V) (H:Hp) (Q:VK) (E_:XK):Prop
 | mk (T dx P:Addr) (as:List Addr) (h0:vs=[.ref T,.ref P]) (h1:H T=some (.ins C.tab dx [])) (h2:H P=some (.lst (as.map V.ref))) (h3:as.length<=100) (h4:∀ L (ws:List Addr) H',H L=none->(∀ x∈ws,H x=none)->ws.Nodup->ws.length=as.length+1->SameBut T H H'->H' T=some (.ins C.tab dx (Wv P L))->H' L=some (.lst (ws.map V.ref))->(∀ x∈ws,H' x=some (.lst []))->Q .non H')
theorem Z3x {Z6 Z5 Z1 Z2 Z4 Z3 Z0:Addr} (R:g.bU "RowTable" Z4 "RowTable.__init__" zf ["self","parts"]) (aF:g.mg "len"=none) (ZY:g.mg "range"=none) (Zn:Cls g.K Z4) (Zr:Yc g.K Z4 "parts") (Zm:Yc g.K Z4 "ways"):g.Ma (1) "RowTable" Z4 ["self","parts"] (JH (Cs.mk Z0 Z2 Z4 Z1 Z3)):=by
 refine R.ma Z3m (fun vs H Q E h=>by obtain ⟨T,dx,P,as,rfl,hT,hP,hl,q⟩:=h;rfl) fun f_ cdv A outer s H vs Q E hr h=>?_
 obtain ⟨T,dx,P,as,rfl,hT,hP,hl,q⟩:=h;refine ⟨_,(@Ye _ _ _ _ _ (@Xm _ _ _ _ _ _ _ _ (pv 0) (pv 1) rfl) (@Yf _ _ _ (@Xm _ _ _ _ _ _ _ _ (pv 0) (@X2 _ _ _ _ _ _ _ ([none]) ((["place"]:List Str)) _ (YG 0) _ _ (.own .nil) rfl (@Vs _ _ _ _ _ _ rfl ZY (@Ya _ _ _ _ _ (@YR _ _ _ _ _ _ _ _ Wp (@YS _ _ _ _ _ _ _ _ _ _ aF YH (@Ya _ _ _ _ _ (pv 1) Yb (by rfl)) (by decide +kernel) (by rfl) (by rfl) (by decide) (by decide) (by rfl) (by rfl)) Yh) Yb (by rfl)) (by rfl)) (fun cl C s₀ H₀ fp pn=>(@YK _ _ (0) _ (show List.Nodup (["place"]:List Str) by decide +kernel) rfl (.inl rfl) (.inr rfl))) (fun cl C s₀ H₀ fp pn=>Xc) (fun cl C s₀ H₀ fp pn=>(@Y5 _ _ _ _ Yb)) (by intro x hx;simp at hx) (by rfl) (by decide) (by decide +kernel) (by intro _;rfl)) rfl))),?_⟩;walk_at "rd";have nTP:T≠P:=Xh hT hP (by simp);refine ⟨_,dx,_,hT,Zn,Zr,by decide,?_⟩;obtain ⟨H1,hH1⟩:∃ H1,H1=upd H T (.ins Z4 dx (YZ "parts" (.ref P) [])):=⟨_,rfl⟩;rw [<- hH1];have z8:H1 T=some (.ins Z4 dx (YZ "parts" (.ref P) [])):=by rw [hH1,Yd]
 have h1:∀ {b:Addr},b≠T->H1 b=H b:=fun n=>by rw [hH1,Yg n]
 refine V9 (n:=as.length+1) (fun D i zs H'=>∃ ws:List Addr,zs=ws.map V.ref/\ws.length=i/\ws.Nodup/\(∀ x∈ws,H1 x=none/\x≠D/\H' x=some (.lst []))/\H' D=some (.lst zs)/\∀ b o,b≠D->H1 b=some o->H' b=some o) (fun R r=>?_) (by omega) ?_ ?_ ?_ ?_
 ·walk_at "rd"
  refine ⟨_,.inl (ao.of ((h1 (Ne.symm nTP)).trans hP)),?_⟩;rw [List.length_map];exact r
 ·intro D hD
  exact ⟨[],rfl,rfl,.nil,fun x hx=>(by cases hx),Yd,fun b o hb e=>by rw [Yg hb];exact e⟩
 ·rintro D i zs H' ⟨ws,rfl,h2,_,_,h3,_⟩
  exact ⟨by rw [List.length_map,h2],h3⟩
 ·rintro D i zs H' hD hi ⟨ws,rfl,hwl,hnd,hws,hd,fr⟩ R r
  walk_at "rd";refine ⟨few (by decide),fun X gX=>?_⟩;have gU:X≠D:=Ne.symm (Yt hd gX);have sX:=Yj.aj gX (.lst []);have gX1:H1 X=none:=by
   cases e:H1 X with
   | none=>rfl
   | some o=>rw [fr X o gU e] at gX;cases gX
  refine r _ _ (sX _ _ hd) ⟨ws++[X],by rw [List.map_append];rfl,by rw [List.length_append,hwl];rfl,?_,fun x hx=>?_,Yd,fun b o hb e=>by rw [Yg hb];exact sX _ _ (fr b o hb e)⟩
  ·rw [List.nodup_append]
   refine ⟨hnd,by simp,fun x hx y hy=>?_⟩;have:y=X:=by simpa using hy
   subst this;intro z;subst z;rw [(hws x hx).2.2] at gX
   cases gX
  ·rcases List.mem_append.mp hx with hx | hx
   ·obtain ⟨k1,k2,k3⟩:=hws x hx
    exact ⟨k1,k2,by rw [Yg k2];exact sX _ _ k3⟩
   ·have:x=X:=by simpa using hx
    subst this;exact ⟨gX1,gU,by rw [Yg gU,Yd]⟩
 ·rintro L zs H' hL ⟨ws,rfl,hwl,hnd,hws,hd,fr⟩
  have JK:L≠T:=Ne.symm (Yt z8 hL);have nf:∀ {b:Addr},H1 b=none->H b=none:=fun {b} e=>by
   by_cases c:b=T
   ·subst c;rw [z8] at e;cases e
   ·rw [<- h1 c];exact e
  have JL:=fr T _ (Ne.symm JK) z8;refine ⟨_,dx,_,JL,Zn,Zm,XW (show 1<=3 by decide),?_⟩;have nw:∀ x∈ws,x≠T:=fun x hx=>Xh (hws x hx).2.2 JL (by simp)
  refine q L ws _ (nf hL) (fun x hx=>nf (hws x hx).1) hnd hwl (fun b o hb e=>?_) ?_ (by rw [Yg JK];exact hd) (fun x hx=>by rw [Yg (nw x hx)];exact (hws x hx).2.2)
  ·rw [Yg hb]
   exact fr b o (Yt ((h1 hb).trans e) hL) ((h1 hb).trans e)
  ·rw [Yd]
   refine congrArg some (congrArg (HO.ins _ _) ?_)
   show YZ "ways" (.ref L) [(("parts":Str),V.ref P)]=Wv P L
   simp only [YZ,if_neg (n1 (a:=("parts":Str)) (b:=("ways":Str)) (by decide +kernel))];rfl
inductive JM (C:Cs) (vs:List V) (H:Hp) (Q:VK) (E_:XK):Prop
 | mk (p dx P:Addr) (as:List Addr) (h0:vs=[.ref p,.ref P]) (h1:H p=some (.ins C.row dx [])) (h2:H P=some (.lst (as.map V.ref))) (h3:as.length<=100) (h4:∀ c T dt L (ws:List Addr) H',H c=none->H T=none->H L=none->(∀ x∈ws,H x=none)->(c::ws).Nodup->ws.length=as.length+1->SameBut p H H'->H' p=some (.ins C.row dx (mf c (fR P T)))->H' c=some (.lst [])->H' T=some (.ins C.tab dt (Wv P L))->H' L=some (.lst (ws.map V.ref))->(∀ x∈ws,H' x=some (.lst []))->Q .non H')
theorem Z3y {k:Nat} {Z6 Z5 Z1 Z2 Z4 Z3 Z0:Addr} (R:g.bU "RowMaker" Z2 "RowMaker.__init__" zq ["self","parts"]) {cH:Nat} (Z40:g.Ma cH "RowTable" Z4 ["self","parts"] (JH (Cs.mk Z0 Z2 Z4 Z1 Z3))) (oX:cH+1<=k) (jC:g.Cf k "Maker" "__init__" ["self"] (pW (Cs.mk Z0 Z2 Z4 Z1 Z3))) (Zh:Cls g.K Z2) (Zb:Yc g.K Z2 "counts") (Zl:Yc g.K Z2 "parts") (Zk:Yc g.K Z2 "table"):g.Ma (k+1) "RowMaker" Z2 ["self","parts"] (JM (Cs.mk Z0 Z2 Z4 Z1 Z3)):=by
 refine R.ma Z3n (fun vs H Q E h=>by obtain ⟨p,dx,P,as,rfl,hp,hP,hl,q⟩:=h;rfl) fun f_ cdv A outer s H vs Q E hr h=>?_
 obtain ⟨p,dx,P,as,rfl,hp,hP,hl,q⟩:=h;refine ⟨_,(@Ye _ _ _ _ _ (@Xb _ _ _ _ (@uM _ _ _ _ _ _ _ _ _ _ _ _ _ _ _ jC hr (@Ya _ _ _ _ _ (pv 0) Yb (by rfl)) (by omega) (by rfl) (by rfl) (by decide) (by rfl) (by rfl) (by rfl)) (by rfl)) (@Ye _ _ _ _ _ (@Xm _ _ _ _ _ _ _ _ (pv 0) (pv 1) rfl) (@Yf _ _ _ (@Xm _ _ _ _ _ _ _ _ (pv 0) (@UL _ _ _ _ _ _ _ _ _ _ _ _ _ Z40 hr (@Ya _ _ _ _ _ (pv 1) Yb (by rfl)) (by omega) (by rfl) (by rfl) (by decide) (by rfl) (by rfl)) rfl)))),?_⟩;walk_at "rd";refine ⟨p,dx,_,rfl,.inr (.inl rfl),hp,fun c hc=>?_⟩;have hne:p≠c:=Yt hp hc;have npP:p≠P:=Xh hp hP (by simp);have nPc:P≠c:=Yt hP hc;refine ⟨_,dx,_,Yd,Zh,Zl,XW (show 1<=3 by decide),?_⟩;obtain ⟨H1,hH1⟩:∃ H1,H1=upd (upd (upd H c (.lst [])) p (.ins Z2 dx [("counts",.ref c)])) p (.ins Z2 dx (YZ "parts" (.ref P) [("counts",.ref c)])):=⟨_,rfl⟩;rw [<- hH1];have z9:H1 p=some (.ins Z2 dx (mf c [("parts",.ref P)])):=by rw [hH1,Yd,uZ (n1 (by decide +kernel))]
 have Aa:H1 c=some (.lst []):=by rw [hH1,Yg (Ne.symm hne),Yg (Ne.symm hne),Yd]
 have h1:∀ {b:Addr} {o:HO},b≠p->H b=some o->H1 b=some o:=fun n e=>by rw [hH1,Yg n,Yg n,Yg (Yt e hc)];exact e
 have nf:∀ {b:Addr},H1 b=none->H b=none:=fun {b} e=>by
  cases z:H b with
  | none=>rfl
  | some o =>
   exfalso;by_cases cc:b=p
   ·subst cc;rw [z9] at e;cases e
   ·rw [h1 cc z] at e;cases e
 intro T dt gT gdt hnd;have sd:=Yj.aj gdt (.own T);have gT2:upd H1 dt (.own T) T=none:=by rw [Yg (Ne.symm hnd)];exact gT
 have s12:=sd.trans (.aj gT2 (.ins Z4 dt []));refine ⟨T,dt,P,as,rfl,Yd,s12 _ _ (h1 (Ne.symm npP) hP),hl,fun L ws H3 gL JN Ov hwl sb h3T JQ mV=>?_⟩;have JR:p≠T:=Yt z9 gT;have ncT:c≠T:=Yt Aa gT;have Ab:=sb _ _ JR (s12 _ _ z9);have h3c:=sb _ _ ncT (s12 _ _ Aa);have ncw:c∉ws:=fun z=>by have:=JN c z;rw [s12 _ _ Aa] at this;cases this
 have npw:∀ x∈ws,x≠p:=fun x hx=>Xh (mV x hx) Ab (by simp)
 have npL:L≠p:=Xh JQ Ab (by simp);refine ⟨rfl,_,dx,_,Ab,Zh,Zk,XW (show 2<=3 by decide),?_⟩;refine q c T dt L ws _ hc (nf gT) (nf (s12.free gL)) (fun x hx=>nf (s12.free (JN x hx))) (List.nodup_cons.mpr ⟨ncw,Ov⟩) hwl (fun b o hb e=>?_) ?_ ?_ ?_ ?_ (fun x hx=>?_)
 ·rw [Yg hb]
  exact sb _ _ (Yt (h1 hb e) gT) (s12 _ _ (h1 hb e))
 ·rw [Yd,put2 (n1 (by decide +kernel)) (n1 (by decide +kernel))];rfl
 ·rw [Yg (Ne.symm hne)];exact h3c
 ·rw [Yg (Ne.symm JR)];exact h3T
 ·rw [Yg npL];exact JQ
 ·rw [Yg (npw x hx)];exact mV x hx
def lf (b:V) (d:Addr):List (Str×V):=[("book",b),("makers",.ref d)]
theorem nbm:¬ (("book":Str)="makers"):=by decide +kernel
theorem Yhf (b:V) (d:Addr):YZ "makers" (.ref d) (YZ "book" b [])=lf b d:=by
 simp only [YZ,if_neg nbm];rfl
theorem Wh (b:V) (d:Addr):(lf b d).lookup ("makers":Str)=some (.ref d):=by
 show List.lookup ("makers":Str) [(("book":Str),b),(("makers":Str),V.ref d)]=_
 rw [List.lookup_cons,show (("makers":Str)==("book":Str))=false by decide +kernel,List.lookup_cons,show (("makers":Str)==("makers":Str))=true by decide +kernel]
theorem Ygv (b:V) (d:Addr):(lf b d).lookup ("book":Str)=some b:=rfl
theorem QA (b:V) (d:Addr) {m:Str} (h1:(m==("book":Str))=false) (h2:(m==("makers":Str))=false):(lf b d).lookup m=none:=by
 show List.lookup m [(("book":Str),b),(("makers":Str),V.ref d)]=_
 rw [List.lookup_cons,h1,List.lookup_cons,h2];rfl
inductive JT (P:Program) (w:World) (C:Addr) (vs:List V) (H:Hp) (Q:VK) (E_:XK):Prop
 | mk (p dx:Addr) (b:V) (h0:vs=[.ref p,b]) (h1:H p=some (.ins C dx [])) (h2:∀ d H',H d=none->SameBut p H H'->H' p=some (.ins C dx (lf b d))->H' d=some (bO P w d [])->Q .non H')
theorem Z4k {Z6 Z5 Z1 Z2 Z4 Z3 Z0:Addr} (R:g.bU "Lister" Z5 "Lister.__init__" yS ["self","book"]) (Zy:Cls g.K Z5) (ZD:Yc g.K Z5 "book") (Zs:Yc g.K Z5 "makers"):g.Ma (1) "Lister" Z5 ["self","book"] (JT g.P g.w Z5):=by
 refine R.ma Z4h (fun vs H Q E h=>by obtain ⟨p,dx,b,rfl,hp,q⟩:=h;rfl) fun f_ cdv A outer s H vs Q E hr h=>?_
 obtain ⟨p,dx,b,rfl,hp,q⟩:=h;refine ⟨_,(@Ye _ _ _ _ _ (@Xm _ _ _ _ _ _ _ _ (pv 0) (pv 1) rfl) (@Yf _ _ _ (@Xm _ _ _ _ _ _ _ _ (pv 0) Yff rfl))),?_⟩;walk_at "rd";refine ⟨Z5,dx,[],hp,Zy,ZD,by decide,fun d hd=>?_⟩;have hne:p≠d:=Yt Yd hd;rw [Yg (Ne.symm hne)] at hd
 refine ⟨Z5,dx,_,by rw [Yg hne];exact Yd,Zy,Zs,by simp [YZ],q d _ hd (fun x o hx h=>?_) ?_ ?_⟩
 ·rw [Yg hx,Yg (Yt h hd),Yg hx];exact h
 ·rw [Yd,Yhf]
 ·rw [Yg (Ne.symm hne),Yd]
  rfl
theorem Xx {H:Hp} {a b:Addr} {o:HO} (h:upd H a o b=none):H b=none:=by
 by_cases e:b=a
 ·subst e;rw [Yd] at h;cases h
 ·rw [Yg e] at h;exact h
theorem Wi {H H':Hp} {x dx:Addr} {o u:HO} (hx:H x=none) (hdx:H dx=none) (sb:SameBut x (upd (upd H dx o) x u) H'):Yj H H':=fun y z h=>by
 have n1:y≠x:=Yt h hx;have n2:y≠dx:=Yt h hdx;exact sb _ _ n1 (by rw [Yg n1,Yg n2];exact h)
def Xy (K:W.Frag) (H:Hp) (B:Addr) (prs:aL):Prop:=∃ vs:List V,H B=some (.lst vs)/\vs.length=prs.length/\∀ (i:Nat) v q,vs[i]?=some v->prs[i]?=some q->∃ T a,v = .ref T/\au K H T [.str (S q.1),.ref a]/\DK K H a (kd q.2)
inductive Ac (K:W.Frag) (vs:List V) (H:Hp) (Q:VK) (E_:XK):Prop
 | mk (prs:aL) (B:Addr) (x:List Nat) (q:List Nat×Sh) (h0:vs=[.ref B,.str (S x)]) (h1:Xy K H B prs) (h2:prs.find? (fun q=>decide (q.1=x))=some q) (h3:∀ a,DK K H a (kd q.2)->Q (.ref a) H)
theorem YbC {Z6 Z5 Z1 Z2 Z4 Z3 Z0:Addr} (R:g.Raw "shape_of" "shape_of" xY ["book","name"]):g.Fn (1) "shape_of" ["book","name"] (Ac g.K):=by
 refine R.fn Ib (fun vs H Q E h=>by obtain ⟨prs,B,x,q,rfl,⟨vs,hB,hl,hv⟩,hf,q'⟩:=h;rfl) fun f_ cdv A outer s H vs Q E hr h=>?_
 obtain ⟨prs,B,x,q,rfl,⟨vs,hB,hl,hv⟩,hf,q'⟩:=h;refine ⟨_,(@Ye _ _ _ _ _ (@WN _ _ _ _ _ _ _ _ PassesOwn.never rfl (@Xo _ _ _ _ (pv 0)) (@YK _ _ (2) _ Ib.nd rfl (.inl rfl) (by first | exact .inl rfl | exact .inr rfl | assumption)) (@Yf _ _ _ (@Yy _ _ _ _ _ _ _ _ (@Yl _ _ _ _ _ _ _ _ YC (@Yo _ _ _ _ _ _ _ Ys (pv 2) Yh (fun _ _=>rfl)) (pv 1) (Yn _)) (@Yf _ _ _ (@Ym _ _ _ _ (@Yo _ _ _ _ _ _ _ Ys (pv 2) Yh (fun _ _=>rfl)))) Yq)) (by intro _;rfl)) (@Yf _ _ _ Y4)),?_⟩;walk_at "rd";refine TX (K:=g.K) (xs:=vs) (fun c i σ H'=>c=B/\H=H'/\(∃ o,σ=[some (.ref B),some (.str (S x)),o])/\∀ (j:Nat) p,j<i->prs[j]?=some p->p.1≠x) (fun R r=>by walk_at "rd";exact r B _ ⟨rfl,rfl,⟨_,rfl⟩,fun j p hj=>by omega⟩) (fun c i σ H' _ ⟨e,e2,_⟩=>by subst e e2;exact ao.of hB) ?_ ?_
 ·rintro c i v σ H' hx ⟨rfl,rfl,⟨o,rfl⟩,hall⟩
  have hi:=(List.getElem?_eq_some_iff.mp hx).1;have hp:prs[i]?=some (prs[i]'(by omega)):=List.getElem?_eq_getElem _;generalize prs[i]'(by omega)=p at hp;obtain ⟨T,a,rfl,hT,hk⟩:=hv i v p hx hp;walk_at "rd";refine ⟨_,hT,_,Yr (j:=0) rfl,Xj _ _,?_⟩;by_cases e:p.1=x
  ·refine WY (by rw [e]) ⟨_,hT,_,Yr (j:=1) rfl,q' a ?_⟩
   have:q=p:=by
    obtain ⟨j,hj,e1,e2⟩:=List.find?_eq_some_iff_getElem.mp hf |>.2
    have e1':prs[j]?=some q:=by rw [List.getElem?_eq_getElem hj,e1]
    have Ad:q.1=x:=of_decide_eq_true (List.find?_eq_some_iff_getElem.mp hf).1;rcases Nat.lt_trichotomy j i with c | c | c
    ·exact absurd Ad (hall j q c e1')
    ·subst c;rw [e1'] at hp;exact Option.some.inj hp
    ·have:=e2 i c
     rw [List.getElem?_eq_getElem (by omega)] at hp
     have hp:=Option.some.inj hp;rw [hp] at this
     simp [e] at this
   rw [this];exact hk
  ·refine XG (fun z=>e (uF (V.str.inj z))) fun j p' hj hp'=>?_
   rcases Nat.lt_succ_iff_lt_or_eq.mp hj with c | rfl
   ·exact hall j p' c hp'
   ·rw [hp] at hp'
    have:=Option.some.inj hp';subst this;exact e
 ·rintro c σ H' ⟨rfl,rfl,⟨o,rfl⟩,hall⟩
  exfalso;obtain ⟨j,hj,e1,e2⟩:=List.find?_eq_some_iff_getElem.mp hf |>.2
  have Ad:q.1=x:=of_decide_eq_true (List.find?_eq_some_iff_getElem.mp hf).1;exact hall j q (by omega) (by rw [List.getElem?_eq_getElem hj,e1]) Ad
def cI (d:Addr) (H H':Hp):Prop:=∀ b o,b≠d->H b=some o->H' b=some o
theorem cI.trans {d:Addr} {H H1 H2:Hp} (a:cI d H H1) (b:cI d H1 H2):cI d H H2:=fun c o n e=>b c o n (a c o n e)
theorem Ux {d:Addr} {H H':Hp} (s:Yj H H'):cI d H H':=fun c o _ e=>s _ _ e
theorem Xy.cu {K:W.Frag} {H H':Hp} {B:Addr} {prs:aL} (h:Xy K H B prs) (t:XO H H') (hB:∀ o,H B=some o->H' B=some o):Xy K H' B prs:=by
 obtain ⟨vs,h1,h2,h3⟩:=h;refine ⟨vs,hB _ h1,h2,fun i v q e1 e2=>?_⟩;obtain ⟨T,a,k1,k2,k3⟩:=h3 i v q e1 e2;exact ⟨T,a,k1,t.sq k2,k3.cu t⟩
structure LS (P0:Program) (w0:World) (K:W.Frag) (C:Cs) (CL:Addr) (prs:aL) (w:Wo) (U O:Addr->Prop) (H:Hp) (ls dx d B:Addr) (xs:Dx):Prop where
 hl:H ls=some (.ins CL dx (lf (.ref B) d))
 hb:Xy K H B prs
 hd:aZ P0 w0 K H d xs
 bi:BI C w U O H
 nd:¬ U d
 nl:¬ U ls
 keys:∀ e∈xs,∃ sh,e.1=kd sh/\aH prs sh/\w.reg e.2.2=some sh
 bk:w.bk=aD prs
 ob:cg prs
 M2:w.M=2
section
variable {P0:Program} {w0:World} {K:W.Frag} {C:Cs} {CL:Addr} {prs:aL} {w:Wo} {U O:Addr->Prop} {H H':Hp} {ls dx d B:Addr} {xs:Dx}
theorem LS.loc (L:LS P0 w0 K C CL prs w U O H ls dx d B xs) {D:Addr} (hD:∀ o,H D=some o->∃ zs,o = .lst zs) (nB:D≠B) (nU:¬ U D) (hk:∀ b o,b≠D->H b=some o->H' b=some o):LS P0 w0 K C CL prs w U O H' ls dx d B xs:=by
 have ne:∀ {b:Addr} {o:HO},H b=some o->(∀ zs,o ≠ .lst zs)->b≠D:=fun e n z=>by
  rw [z] at e
  obtain ⟨zs,h⟩:=hD _ e;exact n zs h
 have tk:XO H H':=fun b ys h=>by
  rcases h with h | ⟨o,h⟩
  ·exact .inl (hk _ _ (ne h (by intro zs z;cases z)) h)
  ·exact .inr ⟨o,hk _ _ (ne h (by intro zs z;cases z)) h⟩
 refine ⟨hk _ _ (ne L.hl (by intro zs z;cases z)) L.hl,L.hb.cu tk fun o e=>hk _ _ (Ne.symm nB) e,L.hd.keep tk (hk _ _ (ne L.hd.at_ (by intro zs z;cases z)) L.hd.at_),L.bi.keep fun b o hb e=>hk b o (fun z=>nU (by rw [<- z];exact hb)) e,L.nd,L.nl,L.keys,L.bk,L.ob,L.M2⟩
theorem LS.same (L:LS P0 w0 K C CL prs w U O H ls dx d B xs) (s:Yj H H'):LS P0 w0 K C CL prs w U O H' ls dx d B xs :=
 ⟨s _ _ L.hl,L.hb.cu (Wd s) fun o e=>s _ _ e,L.hd.keep (Wd s) (s _ _ L.hd.at_),L.bi.keep fun b o _ e=>s _ _ e,L.nd,L.nl,L.keys,L.bk,L.ob,L.M2⟩
theorem VT {a:Addr} {k:PyData} {φ:Heap->Prop} (h:DK K H a k) (fr:cI d H H') (hd:H d=some (.ext φ)):DK K H' a k:=h.cu (Wb fr hd (by intro xs z;cases z) (by intro o v z;cases z))
theorem LS.made (L:LS P0 w0 K C CL prs w U O H ls dx d B xs) (s:Yj H H') {p:Addr} {os ss:List Addr} {sh:Sh} (N:New H H' U p os ss) (hd:d∉os/\d∉ss) (hl:ls∉os/\ls∉ss) (hm:Ww C (w.add p sh os) (t0 (Ua U os ss)) H' p sh):LS P0 w0 K C CL prs (w.add p sh os) (Ua U os ss) O H' ls dx d B xs:=by
 have Ae:¬ O p:=fun z=>by
  obtain ⟨_,_,_,_,h,_⟩:=L.bi.op p z;exact N.nu _ (.inr N.inn) h.2
 refine ⟨s _ _ L.hl,L.hb.cu (Wd s) fun o e=>s _ _ e,L.hd.keep (Wd s) (s _ _ L.hd.at_),N.bi L.bi (fun _ _=>Iff.rfl) (fun _=>hm) (fun z=>absurd z Ae),fun z=>?_,fun z=>?_,fun e he=>?_,L.bk,L.ob,L.M2⟩
 ·rcases z with z | z | z
  ·exact L.nd z
  ·exact hd.1 z
  ·exact hd.2 z
 ·rcases z with z | z | z
  ·exact L.nl z
  ·exact hl.1 z
  ·exact hl.2 z
 ·obtain ⟨s',h1,h2,h3⟩:=L.keys e he
  exact ⟨s',h1,h2,(N.wg (H0:=fun _=>none) L.bi sh fun _ _=>rfl).reg _ _ h3⟩
theorem LS.reg (L:LS P0 w0 K C CL prs w U O H ls dx d B xs) {p:Addr} {sh:Sh} (hok:aH prs sh) (h:aJ xs (kd sh)=some p):w.reg p=some sh:=by
 obtain ⟨e,he,hp⟩:=Option.map_eq_some_iff.mp h;have hm:=List.mem_of_find?_eq_some he;have hk:e.1=kd sh:=of_decide_eq_true (List.find?_some (p:=fun (x:PyData×Addr×Addr)=>decide (x.1=kd sh)) he);obtain ⟨s',h1,h2,h3⟩:=L.keys e hm;rw [hk] at h1
 rw [zZ hok h2 h1,<- hp];exact h3
end
noncomputable def nn (prs:aL) (xs:Dx):Nat:=(prs.filter fun q=>(aJ xs (kd (.use q.1))).isNone).length
def Mo (xs xs':Dx):Prop:=∀ e,aJ xs e≠none->aJ xs' e≠none
theorem Mo.refl (xs:Dx):Mo xs xs:=fun _ h=>h
theorem Mo.trans {xs xs1 xs2:Dx} (a:Mo xs xs1) (b:Mo xs1 xs2):Mo xs xs2:=fun e h=>b e (a e h)
theorem Mo.at {xs xs':Dx} (h:Mo xs xs') (e:PyData):(aJ xs' e).isNone=true->(aJ xs e).isNone=true:=fun z=>by
 cases c:aJ xs e with
 | none=>rfl
 | some p =>
  have:=h e (by rw [c];intro y;cases y);rw [Option.isNone_iff_eq_none] at z
  exact absurd z this
theorem QY {prs:aL} {xs xs':Dx} (h:Mo xs xs'):nn prs xs'<=nn prs xs:=by
 unfold nn
 induction prs with
 | nil=>exact Nat.le_refl _
 | cons q prs ih =>
  rw [List.filter_cons,List.filter_cons];have:=h.at (kd (.use q.1))
  split
  ·rename_i c
   rw [if_pos (this c)];simp only [List.length_cons];omega
  ·split
   ·simp only [List.length_cons];omega
   ·exact ih
theorem Ygw {prs:aL} {xs xs':Dx} {x:List Nat} (h:Mo xs xs') (hx:∃ q,(prs.find? fun q=>decide (q.1=x))=some q) (h1:aJ xs (kd (.use x))=none) (h2:aJ xs' (kd (.use x))≠none):nn prs xs'+1<=nn prs xs:=by
 obtain ⟨q,hq⟩:=hx;have hm:=List.mem_of_find?_eq_some hq;have he:q.1=x:=of_decide_eq_true (List.find?_some (p:=fun (z:List Nat×Sh)=>decide (z.1=x)) hq);clear hq;subst he;unfold nn
 induction prs with
 | nil=>cases hm
 | cons r prs ih =>
  rw [List.filter_cons,List.filter_cons];have ha:=h.at (kd (.use r.1));have hmo:=QY (prs:=prs) h;unfold nn at hmo;rcases List.mem_cons.mp hm with rfl | hm
  ·have e1:(aJ xs (kd (.use q.1))).isNone=true:=by rw [h1];rfl
   have e2:¬ (aJ xs' (kd (.use q.1))).isNone=true:=fun z=>h2 (Option.isNone_iff_eq_none.mp z)
   rw [if_neg e2,if_pos e1];simp only [List.length_cons];omega
  ·have:=ih hm
   split
   ·rename_i c
    rw [if_pos (ha c)];simp only [List.length_cons];omega
   ·split
    ·simp only [List.length_cons];omega
    ·exact this
theorem El {prs:aL} {xs:Dx}:nn prs xs<=prs.length:=List.length_filter_le _ _
inductive gW (P0:Program) (w0:World) (K:W.Frag) (C:Cs) (CL:Addr) (l:Nat) (vs:List V) (H:Hp) (Q:VK) (E_:XK):Prop
 | mk (prs:aL) (w:Wo) (U O:Addr->Prop) (ls dx d B a:Addr) (sh:Sh) (xs:Dx) (h0:vs=[.ref ls,.ref a]) (h1:LS P0 w0 K C CL prs w U O H ls dx d B xs) (h2:DK K H a (kd sh)) (h3:aH prs sh) (h4:kind sh<=4) (h5:dep sh<=w.M) (h6:wt sh<=1000) (h7:xs.length+50*nn prs xs+2*wt sh<=900) (h8:8*nn prs xs+2*dep sh+1<=l) (h9:∀ p H' w' U' xs',LS P0 w0 K C CL prs w' U' O H' ls dx d B xs'->WG w w' U U' H->cI d H H'->w'.reg p=some sh->xs'.length+50*nn prs xs'+1<=xs.length+50*nn prs xs+2*wt sh->Mo xs xs'->Q (.ref p) H')
inductive jD (P0:Program) (w0:World) (K:W.Frag) (C:Cs) (CL:Addr) (l:Nat) (vs:List V) (H:Hp) (Q:VK) (E_:XK):Prop
 | mk (prs:aL) (w:Wo) (U O:Addr->Prop) (ls dx d B a:Addr) (sh:Sh) (xs:Dx) (h0:vs=[.ref ls,.ref a]) (h1:LS P0 w0 K C CL prs w U O H ls dx d B xs) (h2:DK K H a (kd sh)) (h3:aH prs sh) (h4:dep sh<=w.M) (h5:wt sh<=1000) (h6:xs.length+50*nn prs xs+2*wt sh<=900) (h7:8*nn prs xs+2*dep sh+2<=l) (h8:∀ p H' w' U' xs',LS P0 w0 K C CL prs w' U' O H' ls dx d B xs'->WG w w' U U' H->cI d H H'->w'.reg p=some sh->xs'.length+50*nn prs xs'<=xs.length+50*nn prs xs+2*wt sh->Mo xs xs'->Q (.ref p) H')
inductive u0 (P0:Program) (w0:World) (K:W.Frag) (C:Cs) (CL:Addr) (l:Nat) (vs:List V) (H:Hp) (Q:VK) (E_:XK):Prop
 | mk (prs:aL) (w:Wo) (U O:Addr->Prop) (ls dx d B a:Addr) (x:List Nat) (xs:Dx) (h0:vs=[.ref ls,.ref a]) (h1:LS P0 w0 K C CL prs w U O H ls dx d B xs) (h2:DK K H a (kd (.use x))) (h3:aH prs (.use x)) (h4:aJ xs (kd (.use x))=none) (h5:xs.length+50*nn prs xs<=900) (h6:1<=l) (h7:8*nn prs xs<=l+1) (h8:∀ H' w' U' xs',LS P0 w0 K C CL prs w' U' O H' ls dx d B xs'->WG w w' U U' H->cI d H H'->aJ xs' (kd (.use x))≠none->xs'.length+50*nn prs xs'<=xs.length+50*nn prs xs->Mo xs xs'->Q .non H')
theorem Yhg {P0:Program} {w0:World} {K:W.Frag} {C:Cs} {CL:Addr} {vs:List V} {H:Hp} {Q:VK} {E:XK} (h:gW P0 w0 K C CL 0 vs H Q E):False:=by
 obtain ⟨prs,w,U,O,ls,dx,d,B,a,sh,xs,_,_,_,_,_,_,_,_,h,_⟩:=h;omega
theorem JV {P0:Program} {w0:World} {K:W.Frag} {C:Cs} {CL:Addr} {vs:List V} {H:Hp} {Q:VK} {E:XK} (h:jD P0 w0 K C CL 0 vs H Q E):False:=by
 obtain ⟨prs,w,U,O,ls,dx,d,B,a,sh,xs,_,_,_,_,_,_,_,h,_⟩:=h;omega
theorem Ydd {P0:Program} {w0:World} {K:W.Frag} {C:Cs} {CL:Addr} {vs:List V} {H:Hp} {Q:VK} {E:XK} (h:u0 P0 w0 K C CL 0 vs H Q E):False:=by
 obtain ⟨prs,w,U,O,ls,dx,d,B,a,x,xs,_,_,_,_,_,_,h,_⟩:=h;omega
theorem u5 {prs:aL} {sh:Sh} (ob:cg prs) (h:aH prs sh) (hw:wt sh<=1000) {s:Nat} (hs:s<=45):sm (cnt (aD prs) sh s):=by
 obtain ⟨h1,h2⟩:=Vj prs ob sh s hs h hw;refine ⟨300*s+(12*wt sh - 6)+1,by omega,?_⟩;have h3:(2:Int)^(300*s+(12*wt sh - 6))<2^(300*s+(12*wt sh - 6)+1):=by
  have:(2:Nat)^(300*s+(12*wt sh - 6))<2^(300*s+(12*wt sh - 6)+1):=Nat.pow_lt_pow_right (by decide) (by omega)
  exact_mod_cast this
 have h4:((cnt (aD prs) sh s).natAbs:Int)<((2^(300*s+(12*wt sh - 6)+1):Nat):Int):=by
  rw [Int.natAbs_of_nonneg h1];have:=Int.lt_of_le_of_lt h2 h3
  exact_mod_cast this
 exact_mod_cast h4
theorem Yhh {prs:aL} {ps:List Sh} (ob:cg prs) (h:Xg prs ps) (hw:aP ps<=1000) {s:Nat} (hs:s<=45):sm (YD (aD prs) ps s):=by
 obtain ⟨h1,h2⟩:=UQ prs ob ps s hs h hw;refine ⟨300*s+12*aP ps+1,by omega,?_⟩;have h3:(2:Int)^(300*s+12*aP ps)<2^(300*s+12*aP ps+1):=by
  have:(2:Nat)^(300*s+12*aP ps)<2^(300*s+12*aP ps+1):=Nat.pow_lt_pow_right (by decide) (by omega)
  exact_mod_cast this
 have h4:((YD (aD prs) ps s).natAbs:Int)<((2^(300*s+12*aP ps+1):Nat):Int):=by
  rw [Int.natAbs_of_nonneg h1];have:=Int.lt_of_le_of_lt h2 h3
  exact_mod_cast this
 exact_mod_cast h4
section
variable {P0:Program} {w0:World} {K:W.Frag} {C:Cs} {CL:Addr} {prs:aL} {w w1:Wo} {U U1 O:Addr->Prop} {H H1 H3:Hp} {ls dx d B:Addr} {xs xs1:Dx}
theorem LS.fin (L:LS P0 w0 K C CL prs w U O H ls dx d B xs) (L1:LS P0 w0 K C CL prs w1 U1 O H1 ls dx d B xs1) (G1:WG w w1 U U1 H) (bW:cI d H H1) (s:Yj H1 H3) {p:Addr} {os ss:List Addr} {sh:Sh} (N:New H1 H3 U1 p os ss) (h0:∀ b,b∈os\/b∈ss->H b=none) (hm:Ww C (w1.add p sh os) (t0 (Ua U1 os ss)) H3 p sh) :
  LS P0 w0 K C CL prs (w1.add p sh os) (Ua U1 os ss) O H3 ls dx d B xs1/\WG w (w1.add p sh os) U (Ua U1 os ss) H/\cI d H H3/\(w1.add p sh os).reg p=some sh:=by
 have nd:∀ {l:List Addr},(∀ b∈l,H b=none)->d∉l:=fun h z=>by have:=h d z;rw [L.hd.at_] at this;cases this
 have nl:∀ {l:List Addr},(∀ b∈l,H b=none)->ls∉l:=fun h z=>by have:=h ls z;rw [L.hl] at this;cases this
 exact ⟨L1.made s N ⟨nd fun b hb=>h0 b (.inl hb),nd fun b hb=>h0 b (.inr hb)⟩ ⟨nl fun b hb=>h0 b (.inl hb),nl fun b hb=>h0 b (.inr hb)⟩ hm,G1.trans (N.wg L1.bi sh h0) (fun _ h=>h),bW.trans (Ux s),if_pos rfl⟩
theorem LS.back (L1:LS P0 w0 K C CL prs w1 U1 O H1 ls dx d B xs1) (bW:cI d H H1) {b:Addr} (h:H1 b=none):H b=none:=by
 cases e:H b with
 | none=>rfl
 | some o =>
  exfalso;by_cases c:b=d
  ·subst c;rw [L1.hd.at_] at h;cases h
  ·rw [bW b o c e] at h;cases h
end
theorem Ygx {prs:aL} {sh q:Sh} (h:aH prs sh) (hq:q∈XV sh):aH prs q:=by
 cases sh with
 | row ps=>rw [aH] at h;exact We h.2 hq
 | pick mk ps=>rw [aH] at h;exact We h.2.2.1 hq
 | _=>cases hq
theorem Yfm {sh q:Sh} (hq:q∈XV sh):dep q+1<=dep sh:=by
 cases sh with
 | row ps=>rw [show dep (.row ps)=YU ps+1 by rw [dep]];have:=WB (ps:=ps) hq;omega
 | pick mk ps=>rw [show dep (.pick mk ps)=YU ps+1 by rw [dep]];have:=WB (ps:=ps) hq;omega
 | _=>cases hq
theorem JW {sh:Sh} (h:kind sh=2\/kind sh=3):aP (XV sh)+1=wt sh:=by
 cases sh with
 | row ps=>rw [show wt (.row ps)=aP ps+1 by rw [wt]];rfl
 | pick mk ps=>rw [show wt (.pick mk ps)=aP ps+1 by rw [wt]];rfl
 | _=>simp [kind] at h
theorem QZ:∀ a b:List Sh,aP (a++b)=aP a+aP b
 | [],b=>by simp [aP]
 | p::a,b=>by
  have:=QZ a b;rw [List.cons_append,aP,aP];omega
theorem Yfn {l:List Sh} {i:Nat} {q:Sh} (h:l[i]?=some q):aP (l.take (i+1))=aP (l.take i)+wt q:=by
 rw [Xn h,QZ];simp [aP]
theorem YbD (l:List Sh) (i:Nat):aP (l.take i)<=aP l:=by
 have e:aP l=aP (l.take i)+aP (l.drop i):=by rw [<- QZ,List.take_append_drop]
 omega
theorem JX:∀ l:List Sh,l.length<=aP l
 | []=>Nat.zero_le _
 | p::l=>by
  have:=JX l;have:=VS p;rw [aP,List.length_cons];omega
variable {m:Nat}
theorem JZ {k:Nat} {Z6 Z5 Z1 Z2 Z4 Z3 Z0:Addr} (R:g.aO Z5 "new_maker" "Lister.new_maker" yW ["self","shape"]) (oA:g.Fn k "parts_of" ["shape"] (z7 g.K)) (pX:g.Me k Z5 "maker_of" ["self","shape"] (jD g.P g.w g.K (Cs.mk Z0 Z2 Z4 Z1 Z3) Z5 m)) {cB:Nat} (Z36:g.Ma cB "WholeMaker" Z0 ["self","low","high"] (JD (Cs.mk Z0 Z2 Z4 Z1 Z3))) (mW:cB+1<=k) {cJ:Nat} (Z41:g.Ma cJ "RowMaker" Z2 ["self","parts"] (JM (Cs.mk Z0 Z2 Z4 Z1 Z3))) (oY:cJ+1<=k) {cF:Nat} (Z3z:g.Ma cF "PickMaker" Z1 ["self","marks","parts"] (JF (Cs.mk Z0 Z2 Z4 Z1 Z3))) (oE:cF+1<=k) (Zy:Cls g.K Z5) (ZD:Yc g.K Z5 "book") (Zs:Yc g.K Z5 "makers"):g.Me (k+1) Z5 "new_maker" ["self","shape"] (gW g.P g.w g.K (Cs.mk Z0 Z2 Z4 Z1 Z3) Z5 (m+1)):=by
 refine R.me yX (fun vs H Q E h=>by obtain ⟨prs,w,U,O,ls,dx,d,B,a,sh,xs,rfl,L,hk,hok,hki,hdp,bI,gj,hnm,q⟩:=h;rfl) fun f_ cdv A outer s H vs Q E hr h=>?_
 obtain ⟨prs,w,U,O,ls,dx,d,B,a,sh,xs,rfl,L,hk,hok,hki,hdp,bI,gj,hnm,q⟩:=h;refine ⟨_,(@Ye _ _ _ _ _ (@Yz _ _ (2) _ _ _ _ yX.nd rfl (.inl rfl) (@Yo _ _ _ _ _ _ _ Ys (pv 1) Yh (fun _ _=>rfl)) (by rfl) (by first | exact .inl rfl | exact .inr rfl | assumption)) (@Ye _ _ _ _ _ (@Yy _ _ _ _ _ _ _ _ (@Yl _ _ _ _ _ _ _ _ YC (pv 2) Yk (Yn _)) (@Yf _ _ _ (@Ym _ _ _ _ (@UL _ _ _ _ _ _ _ _ _ _ _ _ _ Z36 hr (@Ya _ _ _ _ _ (@Yo _ _ _ _ _ _ _ Ys (pv 1) Yh (fun _ _=>rfl)) (@Ya _ _ _ _ _ (@Yo _ _ _ _ _ _ _ Ys (pv 1) Yh (fun _ _=>rfl)) Yb (by rfl)) (by rfl)) (by omega) (by rfl) (by rfl) (by decide) (by rfl) (by rfl)))) Yq) (@Ye _ _ _ _ _ (@Yy _ _ _ _ _ _ _ _ (@Yl _ _ _ _ _ _ _ _ YC (pv 2) Yk (Yn _)) (@Yf _ _ _ Y4) Yq) (@Ye _ _ _ _ _ (@QS _ (3) _ _ _ _ _ _ _ _ _ ([none,some 0]) ((["part","self"]:List Str)) _ (YG 0) _ _ yX.nd rfl (.inl rfl) (.own (.cap (i:=0) rfl rfl (by first | exact .inl rfl | exact .inr rfl) .nil)) rfl (@Xo _ _ _ _ (@YA _ _ _ _ _ _ _ _ _ _ _ _ oA hr (@Ya _ _ _ _ _ (pv 1) Yb (by rfl)) (by omega) (by rfl) (by rfl) (by decide) (by rfl) (by rfl))) (fun cl C s₀ H₀ fp pn=>(@YK _ _ (0) _ (show List.Nodup (["part","self"]:List Str) by decide +kernel) rfl (.inl rfl) (.inr rfl))) (fun cl C s₀ H₀ fp pn=>Xc) (fun cl C s₀ H₀ fp pn=>(@XA _ _ _ _ _ _ _ _ _ _ _ _ _ _ _ _ pX Zy hr (pv 1) (@Ya _ _ _ _ _ (pv 0) Yb (by rfl)) (by omega) (by rfl) (by rfl) (by rfl) (by rfl))) (by intro x hx;simp at hx;first | (subst hx;exact .inl rfl) | (rcases hx with rfl | rfl<;>exact .inl rfl) | (rcases hx with rfl | rfl | rfl<;>exact .inl rfl) | (rcases hx with rfl | rfl | rfl | rfl<;>exact .inl rfl) | (rcases hx with rfl | rfl | rfl | rfl | rfl<;>exact .inl rfl)) (by rfl) (by decide) (by decide +kernel) (by intro _;rfl) (by rfl) (by first | exact .inl rfl | exact .inr rfl | assumption)) (@Ye _ _ _ _ _ (@Yy _ _ _ _ _ _ _ _ (@Yl _ _ _ _ _ _ _ _ YC (pv 2) Yk (Yn _)) (@Yf _ _ _ (@Ym _ _ _ _ (@UL _ _ _ _ _ _ _ _ _ _ _ _ _ Z41 hr (@Ya _ _ _ _ _ (pv 3) Yb (by rfl)) (by omega) (by rfl) (by rfl) (by decide) (by rfl) (by rfl)))) Yq) (@Ye _ _ _ _ _ (@Yy _ _ _ _ _ _ _ _ (@Yl _ _ _ _ _ _ _ _ YC (pv 2) Yk (Yn _)) (@Yf _ _ _ (@Ym _ _ _ _ (@UL _ _ _ _ _ _ _ _ _ _ _ _ _ Z3z hr (@Ya _ _ _ _ _ (@X2 _ _ _ _ _ _ _ ([none,none]) ((["mark","part"]:List Str)) _ (VF g.K 2 (Xz (YG 0) (Xz (YG 1) V6))) _ _ (.own (.own .nil)) rfl (@Qk _ _ _ _ (@Yo _ _ _ _ _ _ _ Ys (pv 1) Yh (fun _ _=>rfl))) (fun cl C s₀ H₀ fp pn=>(@VI _ _ _ _ _ (2) rfl (@Xk _ _ _ _ _ (@YK _ _ (0) _ (show List.Nodup (["mark","part"]:List Str) by decide +kernel) rfl (.inl rfl) (.inr rfl)) (@Xk _ _ _ _ _ (@YK _ _ (1) _ (show List.Nodup (["mark","part"]:List Str) by decide +kernel) rfl (.inl rfl) (.inr rfl)) W6 (by rfl)) (by rfl)) (by rfl) (by rfl))) (fun cl C s₀ H₀ fp pn=>Xc) (fun cl C s₀ H₀ fp pn=>(pv 0)) (by intro x hx;simp at hx) (by rfl) (by decide) (by decide +kernel) (by intro _;rfl)) (@Ya _ _ _ _ _ (pv 3) Yb (by rfl)) (by rfl)) (by omega) (by rfl) (by rfl) (by decide) (by rfl) (by rfl)))) Yq) (@Ye _ _ _ _ _ Y4 (@Ye _ _ _ _ _ Y4 (@Yf _ _ _ Y4))))))))),?_⟩;have hkd:=hk.den;have nU:∀ {b:Addr},H b=none->¬ U b:=fun e z=>L.bi.al _ z e
 have parts:(kind sh=2\/kind sh=3)->∀ (mv:V) (Qc:VK),(∀ D (as:List Addr) H1 w1 U1 xs1,LS g.P g.w g.K (Cs.mk Z0 Z2 Z4 Z1 Z3) Z5 prs w1 U1 O H1 ls dx d B xs1->WG w w1 U U1 H->cI d H H1->H D=none->¬ U1 D->H1 D=some (.lst (as.map V.ref))->WR w1.reg as (XV sh)->xs1.length+50*nn prs xs1+2<=xs.length+50*nn prs xs+2*wt sh->Mo xs xs1->Qc (.ref D) H1) ->
   d7 [none,some 0] (W0 g.K (XS (z7 g.K) [] E0 (Xr (XN 1) XF))) (YG 0) Wa (Qp Z5 "maker_of" (jD g.P g.w g.K (Cs.mk Z0 Z2 Z4 Z1 Z3) Z5 m) [] E0 (XN 1) (Xr (XN 0) XF)) [some (V.ref ls),some (V.ref a),some mv,none] H Qc:=by
  intro h3 mv Qc hq;have hsw:=JW h3;refine Ydb (K:=g.K) (fun b vs H1=>Yj H H1/\H b=none/\∃ bs:List Addr,vs=bs.map V.ref/\H1 b=some (.lst vs)/\bs.length=(XV sh).length/\∀ (i:Nat) b q,bs[i]?=some b->(XV sh)[i]?=some q->DK g.K H b (kd q)) (fun R r=>?_) ?_
  ·walk_at "rd"
   exact ⟨prs,a,sh,rfl,hk,hok,h3,fun D bs H1 s1 hD hd hl hb=>r D _ H1 ⟨s1,hD,bs,rfl,hd,hl,hb⟩⟩
  ·rintro b vs H1 ⟨s1,gb,bs,rfl,hb1,Af,hbs⟩
   have hlw:=JX (XV sh);refine ⟨ao.of hb1,by rw [List.length_map];omega,fun D i zs H'=>∃ (as:List Addr) (w1:Wo) (U1:Addr->Prop) (xs1:Dx),zs=as.map V.ref/\as.length=i/\LS g.P g.w g.K (Cs.mk Z0 Z2 Z4 Z1 Z3) Z5 prs w1 U1 O H' ls dx d B xs1/\WG w w1 U U1 H/\cI d H1 H'/\¬ U1 D/\H' D=some (.lst zs)/\(∀ (j:Nat) a q,as[j]?=some a->(XV sh)[j]?=some q->w1.reg a=some q)/\xs1.length+50*nn prs xs1<=xs.length+50*nn prs xs+2*aP ((XV sh).take i)/\Mo xs xs1,?_,?_,?_,?_⟩
   ·intro D hD
    have sD:=Yj.aj hD (.lst []);exact ⟨[],w,U,xs,rfl,rfl,(L.same s1).same sD,.refl _ _ _,Ux sD,nU (s1.free hD),Yd,fun j a q h=>(by simp at h),by simp [aP],.refl _⟩
   ·rintro D i zs H' hD ⟨as,w1,U1,xs1,rfl,h1,L1,G1,bW,iJ,h2,_⟩
    have nbd:b≠d:=Xh hb1 (s1 _ _ L.hd.at_) (by intro z;cases z);exact ⟨by rw [List.length_map,h1],h2,ao.of (bW _ _ nbd hb1)⟩
   ·rintro D i x zs H' hD hx ⟨as,w1,U1,xs1,rfl,hal,L1,G1,bW,iJ,hD',hreg,jE,gn⟩ R r
    rw [List.getElem?_map] at hx
    obtain ⟨bq,J0,rfl⟩:=Option.map_eq_some_iff.mp hx;have hi:=(List.getElem?_eq_some_iff.mp J0).1;have pY:(XV sh)[i]?=some ((XV sh)[i]'(by omega)):=List.getElem?_eq_getElem _;generalize (XV sh)[i]'(by omega)=sq at pY;have hmem:=List.mem_of_getElem? pY;have hdq:=Yfm hmem;have hwq:=Yfn pY;have hwl:=YbD (XV sh) (i+1);have hnn:=QY (prs:=prs) gn;have J1:cI d H H':=(Ux s1).trans bW;have dkq:=VT (hbs i bq sq J0 pY) J1 L.hd.at_;walk_at "rd";refine ⟨_,_,L1.hl,QA _ _ (by decide +kernel) (by decide +kernel),prs,w1,U1,O,ls,dx,d,B,bq,sq,xs1,rfl,L1,dkq,Ygx hok hmem,by rw [G1.M];omega,by omega,by omega,by omega,fun p H2 w2 U2 xs2 L2 G2 dI hr2 hl2 nk2=>?_⟩;have nDd:D≠d:=Xh hD' L1.hd.at_ (by intro z;cases z);have hD2:=dI _ _ nDd hD';have f9:¬ U2 D:=fun z=>by
     rcases G2.u2 D z with z | z
     ·exact iJ z
     ·rw [hD'] at z;cases z
    have nDB:D≠B:=fun z=>by
     obtain ⟨vs,hB,_⟩:=L.hb;rw [z,s1 _ _ hB] at hD;cases hD
    refine r _ _ hD2 ⟨as++[p],w2,U2,xs2,by rw [List.map_append];rfl,by rw [List.length_append,hal];rfl,L2.loc (fun o e=>by rw [hD2] at e;exact ⟨_,(Option.some.inj e).symm⟩) nDB f9 (fun b o hb e=>by rw [Yg hb];exact e),G1.trans G2 fun z hz=>?_,fun z o hz e=>?_,f9,Yd,fun j a' q' h1 h2=>?_,by omega,gn.trans nk2⟩
    ·intro e
     exact hz (L1.back J1 e)
    ·rw [Yg (Yt e hD)]
     exact dI _ _ hz (bW _ _ hz e)
    ·by_cases c:j<as.length
     ·rw [List.getElem?_append_left c] at h1
      exact G2.reg _ _ (hreg j a' q' h1 h2)
     ·have hj:j=as.length:=by
       have:=(List.getElem?_eq_some_iff.mp h1).1;rw [List.length_append,List.length_singleton] at this
       omega
      subst hj;rw [List.getElem?_append_right (Nat.le_refl _),Nat.sub_self] at h1
      have:p=a':=Option.some.inj h1;subst this;rw [hal,pY] at h2
      have:=Option.some.inj h2;subst this;exact hr2
   ·rintro D zs H' hD ⟨as,w1,U1,xs1,rfl,hal,L1,G1,bW,iJ,hD',hreg,jE,gn⟩
    rw [List.length_map] at hal jE
    rw [List.take_of_length_le (by omega)] at jE
    exact hq D as H' w1 U1 xs1 L1 G1 ((Ux s1).trans bW) (s1.free hD) iJ hD' ⟨by omega,hreg⟩ (by omega) gn
 walk_at "rd"
 cases sh with
 | w lo span =>
  rw [kd] at hkd
  obtain ⟨b,vs,e,hT,hvs⟩:=Xe hkd;have:=V.ref.inj e;subst this;obtain ⟨u1,r1,rfl,h5,h6⟩:=YY hvs;obtain ⟨u2,r2,rfl,h7,h8⟩:=YY h6;obtain ⟨u3,r3,rfl,h9,h10⟩:=YY h8;have:=XU h10;subst this;have:=WF h5;subst this;have:=US h7;subst this;have:=US h9;subst this;refine ⟨_,hT,_,Yr (j:=0) rfl,Xj _ _,WY rfl ⟨_,hT,_,Yr (j:=1) rfl,_,hT,_,Yr (j:=2) rfl,fun x cW hx hdx hne=>⟨x,cW,lo,span,rfl,Yd,fun c H3 hc sb h3 h4=>⟨rfl,?_⟩⟩⟩⟩;have s3:=Wi hx hdx sb;have fJ:=Xx (Xx hc);have ncx:c≠x:=fun z=>by rw [z,Yd] at hc;cases hc
  have N:New H H3 U x [c] [x]:=⟨fun b hb=>by
   rcases hb with hb | hb
   ·rw [List.mem_singleton.mp hb];exact nU fJ
   ·rw [List.mem_singleton.mp hb];exact nU hx,.head _,by simp,fun b hb hb'=>ncx ((List.mem_singleton.mp hb).symm.trans (List.mem_singleton.mp hb')),fun b o _ e=>s3 _ _ e,fun b hb=>by
   rcases hb with hb | hb
   ·rw [List.mem_singleton.mp hb,h4];intro z;cases z
   ·rw [List.mem_singleton.mp hb,h3];intro z;cases z⟩
  have hm:Ww (Cs.mk Z0 Z2 Z4 Z1 Z3) (w.add x (.w lo span) [c]) (t0 (Ua U [c] [x])) H3 x (.w lo span):=⟨cW,c,fW lo span,N.un L.bi _ (.head _),hdp,fun s hs=>by show sm (cnt w.bk _ s);rw [L.bk];exact u5 L.ob hok bI hs,Nat.zero_le _,h3,N.dat _ (i:=0) rfl,h4,rfl⟩;obtain ⟨r1,r2,r3,r4⟩:=L.fin L (.refl _ _ _) (fun _ _ _ e=>e) s3 N (fun b hb=>by
   rcases hb with hb | hb
   ·rw [List.mem_singleton.mp hb];exact fJ
   ·rw [List.mem_singleton.mp hb];exact hx) hm
  have:=VS (.w lo span);exact q x H3 _ _ xs r1 r2 r3 r4 (by omega) (.refl _)
 | row ps =>
  rw [kd] at hkd
  obtain ⟨v,hT,hv⟩:=VG hkd;have hok':=hok;rw [aH] at hok'
  have hw':aP ps+1=wt (.row ps):=JW (sh := .row ps) (.inl rfl);refine ⟨_,hT,_,Yr (j:=0) rfl,Xj _ _,XG (by decide +kernel) ⟨Xj _ _,XG (by decide +kernel) (parts (.inl rfl) _ _ fun D as H1 w1 U1 xs1 L1 G1 bW gD iJ hD1 hra jE gn=>?_)⟩⟩;have jF:∀ {b:Addr},H1 b=none->¬ U1 b:=fun e z=>L1.bi.al _ z e
  have hal:as.length=ps.length:=hra.1;refine ⟨Xj _ _,WY rfl fun x cW hx hdx hne=>⟨x,cW,D,as,rfl,Yd,by rw [Yg (Yt hD1 hx),Yg (Yt hD1 hdx)];exact hD1,by omega,fun c T dt Lw ws H3 hc J2 hL hws hnd hwl sb h3 h4 hTT dR J3=>⟨rfl,?_⟩⟩⟩;have s3:=Wi hx hdx sb;have fr:∀ {b:Addr},upd (upd H1 cW (.own x)) x (.ins Z2 cW []) b=none->H1 b=none:=fun e=>Xx (Xx e)
  have Ag:∀ b∈c::ws,H1 b=none:=fun b hb=>by
   rcases List.mem_cons.mp hb with rfl | hb
   ·exact fr hc
   ·exact fr (hws b hb)
  have los:∀ b∈c::ws,H3 b=some (.lst []):=fun b hb=>by
   rcases List.mem_cons.mp hb with rfl | hb
   ·exact h4
   ·exact J3 b hb
  have N:New H1 H3 U1 x (c::ws) [x,D,T,Lw]:=by
   refine ⟨fun b hb=>?_,.head _,hnd,fun b hb hb'=>?_,fun b o _ e=>s3 _ _ e,fun b hb=>?_⟩
   ·rcases hb with hb | hb
    ·exact jF (Ag b hb)
    ·simp only [List.mem_cons,List.not_mem_nil,or_false] at hb
     rcases hb with rfl | rfl | rfl | rfl
     ·exact jF hx
     ·exact iJ
     ·exact jF (fr J2)
     ·exact jF (fr hL)
   ·have e1:=los b hb
    have e2:=Ag b hb;simp only [List.mem_cons,List.not_mem_nil,or_false] at hb';rcases hb' with rfl | rfl | rfl | rfl
    ·rw [h3] at e1;cases e1
    ·rw [hD1] at e2;cases e2
    ·rw [hTT] at e1;cases e1
    ·rw [dR] at e1
     injection e1 with e1
     injection e1 with e1
     have:=congrArg List.length e1;rw [List.length_map,hwl] at this
     simp at this
   ·rcases hb with hb | hb
    ·rw [los b hb];intro z;cases z
    ·simp only [List.mem_cons,List.not_mem_nil,or_false] at hb
     rcases hb with rfl | rfl | rfl | rfl
     ·rw [h3];intro z;cases z
     ·rw [s3 _ _ hD1];intro z;cases z
     ·rw [hTT];intro z;cases z
     ·rw [dR];intro z;cases z
  have hm:Ww (Cs.mk Z0 Z2 Z4 Z1 Z3) (w1.add x (.row ps) (c::ws)) (t0 (Ua U1 (c::ws) [x,D,T,Lw])) H3 x (.row ps):=by
   refine ⟨cW,c,fR D T,N.un L1.bi _ (.head _),by show _<=w1.M;rw [G1.M];exact hdp,fun s hs=>by show sm (cnt w1.bk _ s);rw [L1.bk];exact u5 L.ob hok bI hs,Nat.zero_le _,h3,N.dat _ (i:=0) rfl,h4,D,T,dt,Lw,as,ws,rfl,N.un L1.bi _ (.tail _ (.head _)),N.un L1.bi _ (.tail _ (.tail _ (.head _))),N.un L1.bi _ (.tail _ (.tail _ (.tail _ (.head _)))),s3 _ _ hD1,(hra.grow (N.wg (H0:=fun _=>none) L1.bi _ fun _ _=>rfl)).toM,by omega,hTT,dR,by omega,fun i y hy=>⟨N.dat _ (i:=i+1) (by simpa using hy),Nat.le_refl _,Nat.zero_le _,J3 y (List.mem_of_getElem? hy)⟩,fun i s hs=>?_⟩
   show sm (YD w1.bk _ s)
   rw [L1.bk];have:=Ud ps i;exact Yhh L.ob (Qe i hok'.2) (by omega) hs
  obtain ⟨r1,r2,r3,r4⟩:=L.fin L1 G1 bW s3 N (fun b hb=>by
   rcases hb with hb | hb
   ·exact L1.back bW (Ag b hb)
   ·simp only [List.mem_cons,List.not_mem_nil,or_false] at hb
    rcases hb with rfl | rfl | rfl | rfl
    ·exact L1.back bW hx
    ·exact gD
    ·exact L1.back bW (fr J2)
    ·exact L1.back bW (fr hL)) hm
  exact q x H3 _ _ xs1 r1 r2 r3 r4 (by omega) gn
 | pick mk ps =>
  rw [kd] at hkd
  obtain ⟨v,hT,hv⟩:=VG hkd;have hok':=hok;rw [aH] at hok'
  refine ⟨_,hT,_,Yr (j:=0) rfl,Xj _ _,XG (by decide +kernel) ⟨Xj _ _,XG (by decide +kernel) (parts (.inr rfl) _ _ fun D as H1 w1 U1 xs1 L1 G1 bW gD iJ hD1 hra jE gn=>?_)⟩⟩;have hal:as.length=ps.length:=hra.1;refine ⟨Xj _ _,XG (by decide +kernel) ⟨Xj _ _,WY rfl ?_⟩⟩;have Ah:=(VT hk bW L.hd.at_).den;rw [kd] at Ah
  obtain ⟨v1,hT1,hv1⟩:=VG Ah;obtain ⟨b,vs,rfl,hb,hvs⟩:=Xe hv1;obtain ⟨ts,bs,rfl,hl1,hl2,hts,hbs⟩:=Uf hok'.1 hvs;have hlz:((mk.zip bs).map fun p=>(V.str (S p.1),V.ref p.2)).length=bs.length:=by rw [List.length_map,List.length_zip];omega
  refine Qz (K:=g.K) (b:=b) (xs:=ts.map V.ref) ((mk.zip bs).map fun p=>(V.str (S p.1),V.ref p.2)) (mk.map fun m=>V.str (S m)) (fun R r=>by walk_at "rd";exact ⟨_,hT1,_,Yr (j:=1) rfl,r⟩) hb ?_ (by rw [hlz,List.length_map];omega) (by rw [List.length_map,List.length_map];omega) (by rw [List.length_map];omega) ?_ ?_
  ·intro i x p hx hp
   rw [List.getElem?_map] at hx hp
   obtain ⟨T,hT',rfl⟩:=Option.map_eq_some_iff.mp hx;obtain ⟨⟨m,b'⟩,hz,rfl⟩:=Option.map_eq_some_iff.mp hp;rw [List.getElem?_zip_eq_some] at hz
   exact ⟨T,rfl,hts i T m b' hT' hz.1 hz.2⟩
  ·intro i p y H' hp hy sm R r
   rw [List.getElem?_map] at hp hy
   obtain ⟨⟨m,b'⟩,hz,rfl⟩:=Option.map_eq_some_iff.mp hp;rw [List.getElem?_zip_eq_some] at hz
   rw [hz.1] at hy
   have:V.str (S m)=y:=Option.some.inj hy;subst this;walk_at "rd";exact r H' (.refl _)
  ·intro M H2 gM s2 hM x cW hx hdx hne
   have L2:=L1.same s2;have jF:∀ {b:Addr},H2 b=none->¬ U1 b:=fun e z=>L2.bi.al _ z e
   have hUM:¬ U1 M:=fun z=>L1.bi.al _ z gM
   have hD2:=s2 _ _ hD1;refine ⟨x,cW,M,D,rfl,Yd,fun c H3 hc sb h3 h4=>⟨rfl,?_⟩⟩;have s3:=Wi hx hdx sb;have fJ:=Xx (Xx hc);have N:New H2 H3 U1 x [c] [x,M,D]:=by
    refine ⟨fun b hb=>?_,.head _,by simp,fun b hb hb'=>?_,fun b o _ e=>s3 _ _ e,fun b hb=>?_⟩
    ·rcases hb with hb | hb
     ·rw [List.mem_singleton.mp hb];exact jF fJ
     ·simp only [List.mem_cons,List.not_mem_nil,or_false] at hb
      rcases hb with rfl | rfl | rfl
      ·exact jF hx
      ·exact hUM
      ·exact iJ
    ·have:=List.mem_singleton.mp hb
     subst this;simp only [List.mem_cons,List.not_mem_nil,or_false] at hb';rcases hb' with rfl | rfl | rfl
     ·rw [h3] at h4;cases h4
     ·rw [hM] at fJ;cases fJ
     ·rw [hD2] at fJ;cases fJ
    ·rcases hb with hb | hb
     ·rw [List.mem_singleton.mp hb,h4];intro z;cases z
     ·simp only [List.mem_cons,List.not_mem_nil,or_false] at hb
      rcases hb with rfl | rfl | rfl
      ·rw [h3];intro z;cases z
      ·rw [s3 _ _ hM];intro z;cases z
      ·rw [s3 _ _ hD2];intro z;cases z
   have hm:Ww (Cs.mk Z0 Z2 Z4 Z1 Z3) (w1.add x (.pick mk ps) [c]) (t0 (Ua U1 [c] [x,M,D])) H3 x (.pick mk ps):=⟨cW,c,fP M D,N.un L2.bi _ (.head _),by show _<=w1.M;rw [G1.M];exact hdp,fun s hs=>by show sm (cnt w1.bk _ s);rw [L1.bk];exact u5 L.ob hok bI hs,Nat.zero_le _,h3,N.dat _ (i:=0) rfl,h4,M,D,as,rfl,N.un L2.bi _ (.tail _ (.head _)),N.un L2.bi _ (.tail _ (.tail _ (.head _))),s3 _ _ hM,s3 _ _ hD2,(hra.grow (N.wg (H0:=fun _=>none) L2.bi _ fun _ _=>rfl)).toC,by omega⟩;have dI:cI d H H2:=bW.trans (Ux s2);obtain ⟨r1,r2,r3,r4⟩:=L.fin L2 G1 dI s3 N (fun b hb=>by
    rcases hb with hb | hb
    ·rw [List.mem_singleton.mp hb];exact L2.back dI fJ
    ·simp only [List.mem_cons,List.not_mem_nil,or_false] at hb
     rcases hb with rfl | rfl | rfl
     ·exact L2.back dI hx
     ·exact L1.back bW gM
     ·exact gD) hm
   exact q x H3 _ _ xs1 r1 r2 r3 r4 (by omega) gn
 | _=>simp [kind] at hki
theorem Ww.Ow {C:Cs} {w:Wo} {t:Sw} {H:Hp} {p r cl d9:Addr} {fp:List (Str×V)} {o:HO} {sh:Sh} {cp:Addr} (hp:H p=some (.ins cl d9 (mf cp fp))) (hD:w.D p=none) (n:r≠p) (h:Ww C w t H r sh):Ww C w t (upd H p o) r sh:=by
 obtain ⟨dx,c,fs,h1,h2,h3,h4,h5,h6,h7,h8⟩:=h;have no:∀ {b:Addr} {x:Addr×Nat},w.D b=some x->b≠p:=fun e z=>by rw [z,hD] at e;cases e
 have nl:∀ {b:Addr} {vs:List V},H b=some (.lst vs)->b≠p:=fun e z=>by rw [z,hp] at e;cases e
 refine ⟨dx,c,fs,h1,h2,h3,h4,(Yg n).trans h5,h6,(Yg (no h6)).trans h7,?_⟩
 cases sh with
 | w lo span=>exact h8
 | row ps =>
  obtain ⟨P,T,dt,L,as,ws,k1,k2,k3,k4,k5,k6,k7,k8,k9,k10,k11,k12⟩:=h8;have nT:T≠p:=fun z=>by
   rw [z,hp] at k8
   have e:=Option.some.inj k8
   injection e with _ _ e
   unfold mf Wv at e
   injection e with e _
   injection e with e _
   exact n1 (a:=("counts":Str)) (b:=("parts":Str)) (by decide +kernel) e
  refine ⟨P,T,dt,L,as,ws,k1,k2,k3,k4,(Yg (nl k5)).trans k5,k6,k7,(Yg nT).trans k8,(Yg (nl k9)).trans k9,k10,fun i x hx=>?_,k12⟩;obtain ⟨j1,j2,j3,j4⟩:=k11 i x hx;exact ⟨j1,j2,j3,(Yg (no j1)).trans j4⟩
 | pick mk ps =>
  obtain ⟨M,P,as,k1,k2,k3,k4,k5,k6,k7⟩:=h8;exact ⟨M,P,as,k1,k2,k3,(Yg (nl k4)).trans k4,(Yg (nl k5)).trans k5,k6,k7⟩
 | use x=>exact h8
theorem BI.close {C:Cs} {w:Wo} {U O O':Addr->Prop} {H:Hp} (B:BI C w U O' H) {p q:Addr} {x:List Nat} (hO:∀ r,r≠p->(O' r↔O r)) (hp':O' p) (hr:w.reg p=some (.use x)) (hq:w.reg q=some (w.bk x)):∃ dx c,H p=some (.ins C.use dx (mf c (fU .non)))/\(¬ O p->BI C w U O (upd H p (.ins C.use dx (mf c (fU (.ref q)))))):=by
 obtain ⟨x',dx,c,e1,e2,e3,e4,e5,e6⟩:=B.op p hp';rw [hr] at e1
 have:=Sh.use.inj (Option.some.inj e1);subst this;refine ⟨dx,c,e4,fun nO=>⟨fun r s hrs ho=>?_,fun r hor=>?_,fun b hb=>?_,B.ow,B.oo,B.inj⟩⟩
 ·by_cases cc:r=p
  ·subst cc
   rw [hr] at hrs
   have:=Option.some.inj hrs;subst this;have Ai:c≠r:=fun z=>by rw [z,e2.1] at e5;cases e5
   exact ⟨dx,c,_,e2,by simp [dep],e3,Nat.zero_le _,Yd,e5,(Yg Ai).trans e6,q,rfl,hq,Nat.zero_le _⟩
  ·exact (B.at_ r s hrs fun z=>ho ((hO r cc).mp z)).Ow e4 e2.1 cc
 ·have cc:r≠p:=fun z=>nO (by rw [<- z];exact hor)
  obtain ⟨y,dy,cy,f1,f2,f3,f4,f5,f6⟩:=B.op r ((hO r cc).mpr hor);have Ai:cy≠p:=fun z=>by rw [z,e2.1] at f5;cases f5
  exact ⟨y,dy,cy,f1,f2,f3,(Yg cc).trans f4,f5,(Yg Ai).trans f6⟩
 ·by_cases cc:b=p
  ·rw [cc,Yd];intro z;cases z
  ·rw [Yg cc];exact B.al b hb
section
variable {P0:Program} {w0:World} {K:W.Frag} {C:Cs} {CL:Addr} {prs:aL} {w:Wo} {U O O':Addr->Prop} {H H':Hp} {ls dx d B:Addr} {xs:Dx}
theorem LS.close (L:LS P0 w0 K C CL prs w U O' H ls dx d B xs) {p q:Addr} {x:List Nat} (hO:∀ r,r≠p->(O' r↔O r)) (hp':O' p) (nO:¬ O p) (hr:w.reg p=some (.use x)) (hq:w.reg q=some (w.bk x)) (nls:ls≠p):∃ d9 c,H p=some (.ins C.use d9 (mf c (fU .non)))/\LS P0 w0 K C CL prs w U O (upd H p (.ins C.use d9 (mf c (fU (.ref q))))) ls dx d B xs:=by
 obtain ⟨d9,c,h1,h2⟩:=L.bi.close hO hp' hr hq;have hk:∀ b o,b≠p->H b=some o->upd H p (.ins C.use d9 (mf c (fU (.ref q)))) b=some o:=fun b o n e=>(Yg n).trans e
 have tk:XO H (upd H p (.ins C.use d9 (mf c (fU (.ref q))))):=Wb hk h1 (by intro xs z;cases z) (by intro o v z;cases z);obtain ⟨vs,hB,_⟩:=L.hb;exact ⟨d9,c,h1,hk _ _ nls L.hl,L.hb.cu tk fun o e=>hk _ _ (Xh hB h1 (by intro z;cases z)) e,L.hd.keep tk (hk _ _ (Xh L.hd.at_ h1 (by intro z;cases z)) L.hd.at_),h2 nO,L.nd,L.nl,L.keys,L.bk,L.ob,L.M2⟩
theorem LS.put (L:LS P0 w0 K C CL prs w U O H ls dx d B xs) {a p:Addr} {sh:Sh} (hk:DK K H a (kd sh)) (hok:aH prs sh) (hn:aJ xs (kd sh)=none) (hl:xs.length<1000) (hr:w.reg p=some sh):LS P0 w0 K C CL prs w U O (upd H d (bO P0 w0 d (xs++[(kd sh,a,p)]))) ls dx d B (xs++[(kd sh,a,p)]):=by
 have hkk:∀ b o,b≠d->H b=some o->upd H d (bO P0 w0 d (xs++[(kd sh,a,p)])) b=some o:=fun b o n e=>(Yg n).trans e
 have tk:XO H (upd H d (bO P0 w0 d (xs++[(kd sh,a,p)]))):=Wb hkk L.hd.at_ (by intro xs z;cases z) (by intro o v z;cases z);obtain ⟨vs,hB,_⟩:=L.hb;refine ⟨hkk _ _ (Xh L.hl L.hd.at_ (by intro z;cases z)) L.hl,L.hb.cu tk fun o e=>hkk _ _ (Xh hB L.hd.at_ (by intro z;cases z)) e,L.hd.put hk hn hl,L.bi.keep fun b o hb e=>hkk b o (fun z=>L.nd (by rw [<- z];exact hb)) e,L.nd,L.nl,fun e he=>?_,L.bk,L.ob,L.M2⟩;rcases List.mem_append.mp he with he | he
 ·exact L.keys e he
 ·have:=List.mem_singleton.mp he
  subst this;exact ⟨sh,rfl,hok,hr⟩
theorem LS.aW (L:LS P0 w0 K C CL prs w U O H ls dx d B xs) {a p:Addr} {sh:Sh} (hk:DK K H a (kd sh)) (hok:aH prs sh) (hl:xs.length<1000) (hr:w.reg p=some sh):LS P0 w0 K C CL prs w U O (upd H d (bO P0 w0 d (L2.aW xs (kd sh) a p))) ls dx d B (L2.aW xs (kd sh) a p):=by
 have hkk:∀ b o,b≠d->H b=some o->upd H d (bO P0 w0 d (L2.aW xs (kd sh) a p)) b=some o:=fun b o n e=>(Yg n).trans e
 have tk:XO H (upd H d (bO P0 w0 d (L2.aW xs (kd sh) a p))):=Wb hkk L.hd.at_ (by intro xs z;cases z) (by intro o v z;cases z);obtain ⟨vs,hB,_⟩:=L.hb;refine ⟨hkk _ _ (Xh L.hl L.hd.at_ (by intro z;cases z)) L.hl,L.hb.cu tk fun o e=>hkk _ _ (Xh hB L.hd.at_ (by intro z;cases z)) e,L.hd.aW hk hl,L.bi.keep fun b o hb e=>hkk b o (fun z=>L.nd (by rw [<- z];exact hb)) e,L.nd,L.nl,fun e he=>?_,L.bk,L.ob,L.M2⟩;rcases Yfh he with he | ⟨h1,h2⟩
 ·exact L.keys e he
 ·exact ⟨sh,h1,hok,by rw [h2];exact hr⟩
theorem LS.opened (L:LS P0 w0 K C CL prs w U O H ls dx d B xs) (s:Yj H H') {p d9 c:Addr} {x:List Nat} (hx:H p=none) (hc:H c=none) (hok:aH prs (.use x)) (h3:H' p=some (.ins C.use d9 (mf c (fU .non)))) (h4:H' c=some (.lst [])) :
  LS P0 w0 K C CL prs (w.add p (.use x) [c]) (Ua U [c] [p]) (fun r=>O r\/r=p) H' ls dx d B xs/\WG w (w.add p (.use x) [c]) U (Ua U [c] [p]) H/\(w.add p (.use x) [c]).reg p=some (.use x):=by
 have nU:∀ {b:Addr},H b=none->¬ U b:=fun e z=>L.bi.al _ z e
 have N:New H H' U p [c] [p]:=by
  refine ⟨fun b hb=>?_,.head _,by simp,fun b hb hb'=>?_,fun b o _ e=>s _ _ e,fun b hb=>?_⟩
  ·rcases hb with hb | hb
   ·rw [List.mem_singleton.mp hb];exact nU hc
   ·rw [List.mem_singleton.mp hb];exact nU hx
  ·have e1:=List.mem_singleton.mp hb
   have e2:=List.mem_singleton.mp hb';rw [<- e1,e2,h3] at h4
   cases h4
  ·rcases hb with hb | hb
   ·rw [List.mem_singleton.mp hb,h4];intro z;cases z
   ·rw [List.mem_singleton.mp hb,h3];intro z;cases z
 have h0:∀ b,b∈[c]\/b∈[p]->H b=none:=fun b hb=>by
  rcases hb with hb | hb
  ·rw [List.mem_singleton.mp hb];exact hc
  ·rw [List.mem_singleton.mp hb];exact hx
 have G:=N.wg L.bi (.use x) h0;have nd:∀ {z:Addr} {o:HO},H z=some o->¬ (z=c\/z=p):=fun e h=>by
  rcases h with h | h
  ·rw [h,hc] at e;cases e
  ·rw [h,hx] at e;cases e
 have bi:BI C (w.add p (.use x) [c]) (Ua U [c] [p]) (fun r=>O r\/r=p) H':=N.bi L.bi (fun r hr=>⟨fun z=>z.resolve_right hr,.inl⟩) (fun z=>absurd (.inr rfl) z) (fun _=>⟨x,d9,c,rfl,N.un L.bi _ (.head _),fun s' hs=>by rw [L.bk];exact u5 L.ob hok (by simp [wt]) hs,h3,N.dat _ (i:=0) rfl,h4⟩);have out:∀ {z:Addr} {o:HO},H z=some o->¬ U z->¬ Ua U [c] [p] z:=fun e hU h=>by
  rcases h with h | h | h
  ·exact hU h
  ·exact nd e (.inl (List.mem_singleton.mp h))
  ·exact nd e (.inr (List.mem_singleton.mp h))
 refine ⟨⟨s _ _ L.hl,L.hb.cu (Wd s) fun o e=>s _ _ e,L.hd.keep (Wd s) (s _ _ L.hd.at_),bi,out L.hd.at_ L.nd,out L.hl L.nl,fun e he=>?_,L.bk,L.ob,L.M2⟩,G,if_pos rfl⟩;obtain ⟨s',h1,h2,h3⟩:=L.keys e he;exact ⟨s',h1,h2,G.reg _ _ h3⟩
end
theorem Yhi {xs:Dx} {d:PyData} {a p:Addr} (hn:aJ xs d=none):Mo xs (xs++[(d,a,p)]):=fun e h=>by
 rw [W3 _ _ _ _ _ hn]
 split
 ·intro z;cases z
 ·exact h
theorem Ygy {xs:Dx} {d:PyData} {a p:Addr}:Mo xs (L2.aW xs d a p):=fun e h=>by
 rw [HW]
 split
 ·intro z;cases z
 ·exact h
theorem Yem (c:Addr) (v v':V):YZ "named" v' (mf c (fU v))=mf c (fU v'):=by
 show YZ "named" v' [(("counts":Str),V.ref c),(("named":Str),v)]=_
 simp only [YZ,if_neg (n1 (a:=("counts":Str)) (b:=("named":Str)) (by decide +kernel))];rfl
theorem J4 {k:Nat} {Z6 Z5 Z1 Z2 Z4 Z3 Z0:Addr} (R:g.aO Z5 "add_use" "Lister.add_use" yV ["self","shape"]) (Aj:g.Fn k "shape_of" ["book","name"] (Ac g.K)) (pX:g.Me k Z5 "maker_of" ["self","shape"] (jD g.P g.w g.K (Cs.mk Z0 Z2 Z4 Z1 Z3) Z5 m)) {cL:Nat} (Z42:g.Ma cL "UseMaker" Z3 ["self"] (JG (Cs.mk Z0 Z2 Z4 Z1 Z3))) (oZ:cL+1<=k) (Zy:Cls g.K Z5) (ZD:Yc g.K Z5 "book") (Zs:Yc g.K Z5 "makers") (Zj:Cls g.K Z3) (Zc:Yc g.K Z3 "counts") (Zi:Yc g.K Z3 "named"):g.Me (k+1) Z5 "add_use" ["self","shape"] (u0 g.P g.w g.K (Cs.mk Z0 Z2 Z4 Z1 Z3) Z5 (m+1)):=by
 refine R.me Il (fun vs H Q E h=>by obtain ⟨prs,w,U,O,ls,dx,d,B,a,x,xs,rfl,L,hk,hok,hno,gj,hl1,Ak,q⟩:=h;rfl) fun f_ cdv A outer s H vs Q E hr h=>?_
 obtain ⟨prs,w,U,O,ls,dx,d,B,a,x,xs,rfl,L,hk,hok,hno,gj,hl1,Ak,q⟩:=h;refine ⟨_,(@Ye _ _ _ _ _ (@Yz _ _ (2) _ _ _ _ Il.nd rfl (.inl rfl) (@Yha _ _ _ _ _ _ _ _ _ _ Z42 hr (by omega) (by rfl) (by rfl) (by decide)) (by rfl) (by first | exact .inl rfl | exact .inr rfl | assumption)) (@Ye _ _ _ _ _ (@Yfe _ _ _ _ _ _ _ _ _ _ hr (@YB _ _ _ _ _ (pv 0) rfl) (pv 1) (pv 2) rfl) (@Yf _ _ _ (@Xm _ _ _ _ _ _ _ _ (pv 2) (@XA _ _ _ _ _ _ _ _ _ _ _ _ _ _ _ _ pX Zy hr (pv 0) (@Ya _ _ _ _ _ (@YA _ _ _ _ _ _ _ _ _ _ _ _ Aj hr (@Ya _ _ _ _ _ (@YB _ _ _ _ _ (pv 0) rfl) (@Ya _ _ _ _ _ (@Yo _ _ _ _ _ _ _ Ys (pv 1) Yh (fun _ _=>rfl)) Yb (by rfl)) (by rfl)) (by omega) (by rfl) (by rfl) (by decide) (by rfl) (by rfl)) Yb (by rfl)) (by omega) (by rfl) (by rfl) (by rfl) (by rfl)) rfl)))),?_⟩;walk_at "rd";intro p d9 gp gdx hne;refine ⟨p,d9,rfl,Yd,fun c H1 hc sb h3 h4=>⟨rfl,?_⟩⟩;have s1:=Wi gp gdx sb;have fJ:=Xx (Xx hc);obtain ⟨L1,G1,hr1⟩:=L.opened (x:=x) s1 gp fJ hok h3 h4;have pZ:=hk.keep s1;have L2:=L1.put pZ hok hno (by omega) hr1;have dI:cI d H (upd H1 d (bO g.P g.w d (xs++[(kd (.use x),a,p)]))):=fun b o hb e=>by rw [Yg hb];exact s1 _ _ e
 have dk2:=VT hk dI L.hd.at_;have hkd:=dk2.den;rw [kd] at hkd
 obtain ⟨v,hT2,hv⟩:=VG hkd;have:=WF hv;subst this;have hok':=hok;rw [aH] at hok'
 obtain ⟨q0,iK⟩:=hok';obtain ⟨eb,hm0⟩:=Wg iK;have J5:Mo xs (xs++[(kd (.use x),a,p)]):=Yhi hno;have less:=Ygw J5 ⟨q0,iK⟩ hno (by rw [W3 _ _ _ _ _ hno,if_pos rfl];intro z;cases z);unfold HF;walk_at "rd";refine ⟨_,_,_,L1.hl,Zy,Zs,_,Wh _ _,d,rfl,xs,L1.hd,kd (.use x),pZ,hno,by omega,?_⟩;refine ⟨_,_,L2.hl,QA _ _ (by decide +kernel) (by decide +kernel),_,_,_,L2.hl,Zy,ZD,_,Ygv _ _,_,hT2,_,Yr (j:=1) rfl,prs,B,x,q0,rfl,L2.hb,iK,fun b dkb=>?_⟩;have hw0:=L.ob.wt q0 hm0;have hd0:=L.ob.dp q0 hm0;have hM:=L2.M2;refine ⟨prs,_,_,_,ls,dx,d,B,b,q0.2,_,rfl,L2,dkb,L.ob.ok q0 hm0,by rw [hM];exact hd0,by omega,by rw [List.length_append,List.length_singleton];omega,by omega,fun q' H3 w3 U3 xs3 L3 G3 tY hr3 Ox J6=>?_⟩;have np:p≠d:=fun z=>by rw [z,L.hd.at_] at gp;cases gp
 have Ae:¬ O p:=fun z=>by
  obtain ⟨_,_,_,_,h,_⟩:=L.bi.op p z;exact L.bi.al _ h.2 gp
 have hg3:=G3.reg _ _ hr1;obtain ⟨af0,c',hp3,L4⟩:=L3.close (p:=p) (q:=q') (x:=x) (O:=O) (fun r hr'=>⟨fun z=>z.resolve_right hr',.inl⟩) (.inr rfl) Ae hg3 (by rw [L3.bk,eb];exact hr3) (Yt L.hl gp);refine ⟨_,_,_,hp3,Zj,Zi,XW (show 2<=3 by decide),?_⟩;rw [Yem];refine q _ w3 U3 xs3 L4 (G1.trans G3 fun z hz=>?_) (fun z o hz e=>?_) (J6 _ (by rw [W3 _ _ _ _ _ hno,if_pos rfl];intro z;cases z)) ?_ (J5.trans J6)
 ·intro e
  exact hz (L2.back dI e)
 ·rw [Yg (Yt e gp)]
  exact tY _ _ hz (dI _ _ hz e)
 ·rw [List.length_append,List.length_singleton] at Ox
  omega
theorem Ygz {K:W.Frag} {H:Hp} {a:Addr} {sh:Sh} (h:Den K H (.ref a) (kd sh)):∃ r,au K H a (.str (bH (kd sh))::r):=by
 obtain ⟨ds,hd⟩:=z6 sh;have hm:∃ r,ds = .str (bH (kd sh))::r:=by
  cases sh<;>(rw [kd] at hd ⊢;injection hd with hd;exact ⟨_,hd.symm⟩)
 obtain ⟨r,rfl⟩:=hm;rw [hd] at h
 obtain ⟨b,vs,e,h1,h2⟩:=Xe h;have:=V.ref.inj e;subst this;obtain ⟨u,r',rfl,h3,_⟩:=YY h2;have:=WF h3;subst this;exact ⟨r',h1⟩
theorem J7 {k:Nat} {Z6 Z5 Z1 Z2 Z4 Z3 Z0:Addr} (R:g.aO Z5 "maker_of" "Lister.maker_of" yU ["self","shape"]) (Z4W:g.Me k Z5 "add_use" ["self","shape"] (u0 g.P g.w g.K (Cs.mk Z0 Z2 Z4 Z1 Z3) Z5 m)) (Z4l:g.Me k Z5 "new_maker" ["self","shape"] (gW g.P g.w g.K (Cs.mk Z0 Z2 Z4 Z1 Z3) Z5 m)) (Zy:Cls g.K Z5) (ZD:Yc g.K Z5 "book") (Zs:Yc g.K Z5 "makers"):g.Me (k+1) Z5 "maker_of" ["self","shape"] (jD g.P g.w g.K (Cs.mk Z0 Z2 Z4 Z1 Z3) Z5 (m+1)):=by
 refine R.me Z4i (fun vs H Q E h=>by obtain ⟨prs,w,U,O,ls,dx,d,B,a,sh,xs,rfl,L,hk,hok,hdp,bI,gj,hnm,q⟩:=h;rfl) fun f_ cdv A outer s H vs Q E hr h=>?_
 obtain ⟨prs,w,U,O,ls,dx,d,B,a,sh,xs,rfl,L,hk,hok,hdp,bI,gj,hnm,q⟩:=h;refine ⟨_,(@Ye _ _ _ _ _ (@Yy _ _ _ _ _ _ _ _ (@Yl _ _ _ _ _ _ _ _ (Yc0 hr) (pv 1) (@YB _ _ _ _ _ (pv 0) rfl) rfl) (@Yf _ _ _ (@Yy _ _ _ _ _ _ _ _ (@Yl _ _ _ _ _ _ _ _ YC (@Yo _ _ _ _ _ _ _ Ys (pv 1) Yh (fun _ _=>rfl)) Yk (Yn _)) (@Yf _ _ _ (@Xb _ _ _ _ (@XA _ _ _ _ _ _ _ _ _ _ _ _ _ _ _ _ Z4W Zy hr (pv 0) (@Ya _ _ _ _ _ (pv 1) Yb (by rfl)) (by omega) (by rfl) (by rfl) (by rfl) (by rfl)) (by rfl))) (@Yf _ _ _ (@Yfi _ _ _ _ _ _ _ _ _ _ hr (@YB _ _ _ _ _ (pv 0) rfl) (pv 1) (@XA _ _ _ _ _ _ _ _ _ _ _ _ _ _ _ _ Z4l Zy hr (pv 0) (@Ya _ _ _ _ _ (pv 1) Yb (by rfl)) (by omega) (by rfl) (by rfl) (by rfl) (by rfl)) rfl)))) Yq) (@Yf _ _ _ (@Ym _ _ _ _ (@Yfd _ _ _ _ _ _ _ hr (@YB _ _ _ _ _ (pv 0) rfl) (pv 1) (fun _ _=>rfl))))),?_⟩;walk_at "rd";refine ⟨_,_,_,L.hl,Zy,Zs,_,Wh _ _,d,rfl,xs,L.hd,kd sh,hk,?_⟩;have wp:=VS sh
 cases hlk:aJ xs (kd sh) with
 | some p =>
  refine XG (by simp) ?_;unfold Qw;walk_at "rd";exact ⟨_,_,_,L.hl,Zy,Zs,_,Wh _ _,d,rfl,xs,L.hd,kd sh,hk,p,hlk,q p H w U xs L (.refl _ _ _) (fun _ _ _ e=>e) (L.reg hok hlk) (by omega) (.refl _)⟩
 | none =>
  refine WY rfl ?_;obtain ⟨r,hT⟩:=Ygz hk.den;refine ⟨_,hT,_,Yr (j:=0) rfl,Xj _ _,?_⟩;by_cases c:∃ x,sh = .use x
  ·obtain ⟨x,rfl⟩:=c
   have e6:wt (.use x)=1:=by simp [wt]
   have e7:dep (.use x)=0:=by simp [dep]
   refine WY (by rw [kd];rfl) ⟨_,_,L.hl,QA _ _ (by decide +kernel) (by decide +kernel),prs,w,U,O,ls,dx,d,B,a,x,xs,rfl,L,hk,hok,hlk,by omega,by omega,by omega,fun H' w' U' xs' L' G' fr' hl' hlen nk=>?_⟩;unfold Qw;walk_at "rd";obtain ⟨p,hp⟩:=Option.ne_none_iff_exists'.mp hl';exact ⟨_,_,_,L'.hl,Zy,Zs,_,Wh _ _,d,rfl,xs',L'.hd,kd (.use x),VT hk fr' L.hd.at_,p,hp,q p H' w' U' xs' L' G' fr' (L'.reg hok hp) (by omega) nk⟩
  ·have hki:kind sh<=4:=by
    cases sh with
    | use x=>exact absurd ⟨x,rfl⟩ c
    | _=>simp [kind]
   refine XG (fun z=>c ?_) ?_
   ·have z:=V.str.inj z
    cases sh with
    | use x=>exact ⟨x,rfl⟩
    | _=>exact absurd z (by simp only [kd,bH];decide +kernel)
   ·unfold HX
    walk_at "rd";refine ⟨_,_,L.hl,QA _ _ (by decide +kernel) (by decide +kernel),prs,w,U,O,ls,dx,d,B,a,sh,xs,rfl,L,hk,hok,hki,hdp,bI,gj,by omega,fun p H1 w1 U1 xs1 L1 G1 bW hr1 hl1 gn=>?_⟩;have pZ:=VT hk bW L.hd.at_;have LL:=L1.aW pZ hok (by omega) hr1;have dI:cI d H (upd H1 d (bO g.P g.w d (_root_.L2.aW xs1 (kd sh) a p))):=fun b o hb e=>by rw [Yg hb];exact bW _ _ hb e
    have J8:Mo xs1 (_root_.L2.aW xs1 (kd sh) a p):=Ygy;have hnn:=QY (prs:=prs) J8;have hpl:=Yfg xs1 (kd sh) a p;refine ⟨_,_,_,L1.hl,Zy,Zs,_,Wh _ _,d,a,xs1,kd sh,p,rfl,rfl,rfl,L1.hd,pZ,by omega,?_⟩;unfold Qw;walk_at "rd";refine ⟨_,_,_,LL.hl,Zy,Zs,_,Wh _ _,d,rfl,_,LL.hd,kd sh,VT hk dI L.hd.at_,p,by rw [HW,if_pos rfl],q p _ w1 U1 _ LL G1 dI hr1 (by omega) (gn.trans J8)⟩
def MW (C:Cs) (prs:aL) (M:Nat) (H H':Hp) (p:Addr) (sh:Sh):Prop:=∃ (w:Wo) (U:Addr->Prop),WI C w (t0 U) H'/\w.reg p=some sh/\w.bk=aD prs/\w.M=M/\Yj H H'/\∀ b,U b->H b=none
inductive qb (K:W.Frag) (C:Cs) (vs:List V) (H:Hp) (Q:VK) (E_:XK):Prop
 | mk (prs:aL) (B a:Addr) (sh:Sh) (h0:vs=[.ref B,.ref a]) (h1:Xy K H B prs) (h2:DK K H a (kd sh)) (h3:aH prs sh) (h4:cg prs) (h5:wt sh<=24) (h6:dep sh<=2) (h7:∀ p H',MW C prs 2 H H' p sh->Q (.ref p) H')
theorem Yba {k:Nat} {Z6 Z5 Z1 Z2 Z4 Z3 Z0:Addr} (R:g.Raw "maker_for" "maker_for" yD ["book","shape"]) {cY:Nat} (Z4D:g.Ma cY "Lister" Z5 ["self","book"] (JT g.P g.w Z5)) (rG:cY+1<=k) (pX:g.Me k Z5 "maker_of" ["self","shape"] (jD g.P g.w g.K (Cs.mk Z0 Z2 Z4 Z1 Z3) Z5 60)) (Zy:Cls g.K Z5) (ZD:Yc g.K Z5 "book") (Zs:Yc g.K Z5 "makers"):g.Fn (k+1) "maker_for" ["book","shape"] (qb g.K (Cs.mk Z0 Z2 Z4 Z1 Z3)):=by
 refine R.fn Ya2 (fun vs H Q E h=>by obtain ⟨prs,B,a,sh,rfl,hB,hk,hok,ob,bI,hdp,q⟩:=h;rfl) fun f_ cdv A outer s H vs Q E hr h=>?_
 obtain ⟨prs,B,a,sh,rfl,hB,hk,hok,ob,bI,hdp,q⟩:=h;refine ⟨_,(@Yf _ _ _ (@Ym _ _ _ _ (@XA _ _ _ _ _ _ _ _ _ _ _ _ _ _ _ _ pX Zy hr (@UL _ _ _ _ _ _ _ _ _ _ _ _ _ Z4D hr (@Ya _ _ _ _ _ (pv 0) Yb (by rfl)) (by omega) (by rfl) (by rfl) (by decide) (by rfl) (by rfl)) (@Ya _ _ _ _ _ (pv 1) Yb (by rfl)) (by omega) (by rfl) (by rfl) (by rfl) (by rfl)))),?_⟩;walk_at "rd";intro ls Al gl gdl hne;refine ⟨ls,Al,.ref B,rfl,Yd,fun d H1 gd sb h1 h2=>⟨rfl,_,_,h1,QA _ _ (by decide +kernel) (by decide +kernel),?_⟩⟩;have s1:=Wi gl gdl sb;have gd':=Xx (Xx gd);have hnn:=El (prs:=prs) (xs:=[]);have hpl:=ob.len;have bi:BI (Cs.mk Z0 Z2 Z4 Z1 Z3) ⟨aD prs,fun _=>none,fun _=>none,2⟩ (fun _=>False) (fun _=>False) H1:=⟨fun p s' h=>(by cases h),fun p h=>h.elim,fun b h=>h.elim,fun b x h=>(by cases h),fun b q i h=>(by cases h),fun b b' x h=>(by cases h)⟩;have L1:LS g.P g.w g.K (Cs.mk Z0 Z2 Z4 Z1 Z3) Z5 prs ⟨aD prs,fun _=>none,fun _=>none,2⟩ (fun _=>False) (fun _=>False) H1 ls Al d B []:=⟨h1,hB.cu (Wd s1) fun o e=>s1 _ _ e,Yeb h2,bi,fun z=>z,fun z=>z,fun e he=>(by cases he),rfl,ob,rfl⟩;refine ⟨prs,_,_,_,ls,Al,d,B,a,sh,[],rfl,L1,hk.keep s1,hok,hdp,by omega,by rw [List.length_nil];omega,by omega,fun p H2 w2 U2 xs2 L2 G2 dI hr2 _ _=>q p H2 ⟨w2,U2,L2.bi.wi fun _ h=>h,hr2,L2.bk,G2.M,fun b o e=>dI _ _ (Yt e gd') (s1 _ _ e),fun b hb=>?_⟩⟩;rcases G2.u2 b hb with z | z
 ·exact z.elim
 ·exact s1.free z
theorem J9 (w:Wo) (U:Addr->Prop) (s d:Nat):Xa w (t0 U) s d:=fun p sh _ _ i=>rfl
inductive Ka (K:W.Frag) (C:Cs) (lv:Nat) (vs:List V) (H:Hp) (Q:VK) (E_:XK):Prop
 | mk (prs:aL) (B a:Addr) (sh:Sh) (n:Nat) (h0:vs=[.ref B,.ref a,.int n]) (h1:Xy K H B prs) (h2:DK K H a (kd sh)) (h3:aH prs sh) (h4:cg prs) (h5:wt sh<=24) (h6:dep sh<=2) (h7:n<=40) (h8:5*(n*3+dep sh)+5<=lv) (h9:∀ D H',Yj H H'->H D=none->H' D=some (.lst (Xd (cnt (aD prs) sh) (n+1)))->Q (.ref D) H')
theorem Ybb {k:Nat} {Z6 Z5 Z1 Z2 Z4 Z3 Z0:Addr} (R:g.Raw "counts_to" "counts_to" yF ["book","shape","size"]) (jG:g.Fn k "maker_for" ["book","shape"] (qb g.K (Cs.mk Z0 Z2 Z4 Z1 Z3))) (Zt:g.Me k Z0 "count_at" ["self","size"] (Zo (Cs.mk Z0 Z2 Z4 Z1 Z3) 0 130)) (Zw:g.Me k Z2 "count_at" ["self","size"] (Zo (Cs.mk Z0 Z2 Z4 Z1 Z3) 2 130)) (Zu:g.Me k Z1 "count_at" ["self","size"] (Zo (Cs.mk Z0 Z2 Z4 Z1 Z3) 3 130)) (Zx:g.Me k Z3 "count_at" ["self","size"] (Zo (Cs.mk Z0 Z2 Z4 Z1 Z3) 5 130)) (ZY:g.mg "range"=none) (Za:Cls g.K Z1) (Z9:Yc g.K Z1 "counts") (Zg:Yc g.K Z1 "marks") (Ze:Yc g.K Z1 "parts") (Zh:Cls g.K Z2) (Zb:Yc g.K Z2 "counts") (Zl:Yc g.K Z2 "parts") (Zk:Yc g.K Z2 "table") (Zj:Cls g.K Z3) (Zc:Yc g.K Z3 "counts") (Zi:Yc g.K Z3 "named") (Z8:Cls g.K Z0) (Z7:Yc g.K Z0 "counts") (Zf:Yc g.K Z0 "low") (Zd:Yc g.K Z0 "span"):g.Fn (k+1) "counts_to" ["book","shape","size"] (Ka g.K (Cs.mk Z0 Z2 Z4 Z1 Z3) 130):=by
 refine R.fn Ii (fun vs H Q E h=>by obtain ⟨prs,B,a,sh,n,rfl,hB,hk,hok,ob,bI,hdp,hn,Am,q⟩:=h;rfl) fun f_ cdv A outer s H vs Q E hr h=>?_
 obtain ⟨prs,B,a,sh,n,rfl,hB,hk,hok,ob,bI,hdp,hn,Am,q⟩:=h;refine ⟨_,(@Ye _ _ _ _ _ (@Yz _ _ (3) _ _ _ _ Ii.nd rfl (.inr rfl) (@YA _ _ _ _ _ _ _ _ _ _ _ _ jG hr (@Ya _ _ _ _ _ (pv 0) (@Ya _ _ _ _ _ (pv 1) Yb (by rfl)) (by rfl)) (by omega) (by rfl) (by rfl) (by decide) (by rfl) (by rfl)) (by rfl) (by first | exact .inl rfl | exact .inr rfl | assumption)) (@Yf _ _ _ (@Ym _ _ _ _ (@X2 _ _ _ _ _ _ _ ([none,some 3]) ((["each","maker"]:List Str)) _ (YG 0) _ _ (.own (.cap (i:=3) rfl rfl (by first | exact .inl rfl | exact .inr rfl) .nil)) rfl (@Vs _ _ _ _ _ _ rfl ZY (@Ya _ _ _ _ _ (@YR _ _ _ _ _ _ _ _ Wp (pv 2) Yh) Yb (by rfl)) (by rfl)) (fun cl C s₀ H₀ fp pn=>(@YK _ _ (0) _ (show List.Nodup (["each","maker"]:List Str) by decide +kernel) rfl (.inl rfl) (.inr rfl))) (fun cl C s₀ H₀ fp pn=>Xc) (fun cl C s₀ H₀ fp pn=>(@XH _ _ _ _ _ _ _ _ _ _ _ _ _ _ _ (Yp Zt Z8 (Yp Zw Zh (Yp Zu Za (Yp Zx Zj Xp)))) hr (pv 1) (@Ya _ _ _ _ _ (pv 0) Yb (by rfl)) (by omega) (by rfl) (by rfl) (by rfl) (by rfl))) (by intro x hx;simp at hx;first | (subst hx;exact .inl rfl) | (rcases hx with rfl | rfl<;>exact .inl rfl) | (rcases hx with rfl | rfl | rfl<;>exact .inl rfl) | (rcases hx with rfl | rfl | rfl | rfl<;>exact .inl rfl) | (rcases hx with rfl | rfl | rfl | rfl | rfl<;>exact .inl rfl)) (by rfl) (by decide) (by decide +kernel) (by intro _;rfl))))),?_⟩;walk_at "rd";refine ⟨prs,B,a,sh,rfl,hB,hk,hok,ob,bI,hdp,fun p H1 ⟨w,U,W,hg,eE,hM,s1,hU⟩=>?_⟩;refine V9 (n:=n+1) (fun D i zs H'=>∃ t',Tr (Cs.mk Z0 Z2 Z4 Z1 Z3) w (t0 U) H1 t' H' n (dep sh+1)/\zs=Xd (cnt (aD prs) sh) i/\H' D=some (.lst zs)/\¬ t'.U D) (fun R r=>by walk_at "rd";exact r) (by omega) ?_ ?_ ?_ ?_
 ·intro D hD
  exact ⟨t0 U,(Tr.refl W _ _).put hD (W.new hD).2 _,rfl,Yd,(W.new hD).2⟩
 ·rintro D i zs H' ⟨t',_,rfl,h2,_⟩
  exact ⟨YN _ _,h2⟩
 ·rintro D i zs H' hD hi ⟨t',T1,rfl,hd,cX⟩ R r
  have dD:w.D D=none:=(W.new hD).1;have hf:fu w i (dep sh)+5<=130:=by
   have:=Qy (w:=w) (d:=dep sh) (show i<=n by omega);unfold fu at this ⊢;rw [hM] at this ⊢
   omega
  walk_at "rd";refine WE T1.wi hg (by omega) hf (T1.ready (J9 _ _ _ _)) fun t2 H2 T2 hn2=>?_
  have iI:=T1.trans (T2.mono (by omega));have hd2:=T2.fr _ _ dD hd;have fH:=T2.ours cX hd;exact r _ _ hd2 ⟨t2,iI.put hD fH _,by rw [XL,eE],Yd,fH⟩
 ·rintro D zs H' hD ⟨t',T1,rfl,hd,cX⟩
  refine q D H' (fun b o e=>T1.fr b o ?_ (s1 _ _ e)) (s1.free hD) hd
  cases z:w.D b with
  | none=>rfl
  | some x =>
   have:=hU b (W.ow b x z);rw [e] at this
   cases this
inductive Kc (K:W.Frag) (C:Cs) (lv:Nat) (vs:List V) (H:Hp) (Q:VK) (E_:XK):Prop
 | mk (prs:aL) (B a:Addr) (sh:Sh) (n:Nat) (h0:vs=[.ref B,.ref a,.int n]) (h1:Xy K H B prs) (h2:DK K H a (kd sh)) (h3:aH prs sh) (h4:cg prs) (h5:wt sh<=24) (h6:dep sh<=2) (h7:n<=40) (h8:5*(n*3+dep sh)+5<=lv) (h9:∀ H',Yj H H'->Q (.int (cnt (aD prs) sh n)) H')
theorem Yde {k:Nat} {Z6 Z5 Z1 Z2 Z4 Z3 Z0:Addr} (R:g.Raw "counted" "counted" yE ["book","shape","size"]) (jG:g.Fn k "maker_for" ["book","shape"] (qb g.K (Cs.mk Z0 Z2 Z4 Z1 Z3))) (Zt:g.Me k Z0 "count_at" ["self","size"] (Zo (Cs.mk Z0 Z2 Z4 Z1 Z3) 0 130)) (Zw:g.Me k Z2 "count_at" ["self","size"] (Zo (Cs.mk Z0 Z2 Z4 Z1 Z3) 2 130)) (Zu:g.Me k Z1 "count_at" ["self","size"] (Zo (Cs.mk Z0 Z2 Z4 Z1 Z3) 3 130)) (Zx:g.Me k Z3 "count_at" ["self","size"] (Zo (Cs.mk Z0 Z2 Z4 Z1 Z3) 5 130)) (Za:Cls g.K Z1) (Z9:Yc g.K Z1 "counts") (Zg:Yc g.K Z1 "marks") (Ze:Yc g.K Z1 "parts") (Zh:Cls g.K Z2) (Zb:Yc g.K Z2 "counts") (Zl:Yc g.K Z2 "parts") (Zk:Yc g.K Z2 "table") (Zj:Cls g.K Z3) (Zc:Yc g.K Z3 "counts") (Zi:Yc g.K Z3 "named") (Z8:Cls g.K Z0) (Z7:Yc g.K Z0 "counts") (Zf:Yc g.K Z0 "low") (Zd:Yc g.K Z0 "span"):g.Fn (k+1) "counted" ["book","shape","size"] (Kc g.K (Cs.mk Z0 Z2 Z4 Z1 Z3) 130):=by
 refine R.fn Yc4 (fun vs H Q E h=>by obtain ⟨prs,B,a,sh,n,rfl,hB,hk,hok,ob,bI,hdp,hn,Am,q⟩:=h;rfl) fun f_ cdv A outer s H vs Q E hr h=>?_
 obtain ⟨prs,B,a,sh,n,rfl,hB,hk,hok,ob,bI,hdp,hn,Am,q⟩:=h;refine ⟨_,(@Yf _ _ _ (@Ym _ _ _ _ (@XH _ _ _ _ _ _ _ _ _ _ _ _ _ _ _ (Yp Zt Z8 (Yp Zw Zh (Yp Zu Za (Yp Zx Zj Xp)))) hr (@YA _ _ _ _ _ _ _ _ _ _ _ _ jG hr (@Ya _ _ _ _ _ (pv 0) (@Ya _ _ _ _ _ (pv 1) Yb (by rfl)) (by rfl)) (by omega) (by rfl) (by rfl) (by decide) (by rfl) (by rfl)) (@Ya _ _ _ _ _ (pv 2) Yb (by rfl)) (by omega) (by rfl) (by rfl) (by rfl) (by rfl)))),?_⟩;walk_at "rd";refine ⟨prs,B,a,sh,rfl,hB,hk,hok,ob,bI,hdp,fun p H1 ⟨w,U,W,hg,eE,hM,s1,hU⟩=>⟨p,rfl,?_⟩⟩;have hf:fu w n (dep sh)+5<=130:=by
  unfold fu;rw [hM];omega
 refine WE W hg hn hf (J9 _ _ _ _) fun t' H' T1 _=>?_
 rw [eE];refine q H' fun b o e=>T1.fr b o ?_ (s1 _ _ e)
 cases z:w.D b with
 | none=>rfl
 | some x =>
  have:=hU b (W.ow b x z);rw [e] at this
  cases this
def aN:List (Int×Int)->Int->Nat×Int×Int
 | [],n=>(0,n,0)
 | p::ps,n=>if p.1*p.2<=n then ((aN ps (n - p.1*p.2)).1+1,(aN ps (n - p.1*p.2)).2) else (0,n / p.2,n%p.2)
def iM (pl:Nat) (c r:Int):List (Str×V):=[("place",.int pl),("choice",.int c),("rest",.int r)]
inductive Kd (C:Addr) (vs:List V) (H:Hp) (Q:VK) (E_:XK):Prop
 | mk (p dx:Addr) (pl:Nat) (c r:Int) (h0:vs=[.ref p,.int pl,.int c,.int r]) (h1:H p=some (.ins C dx [])) (h2:∀ H',SameBut p H H'->H' p=some (.ins C dx (iM pl c r))->Q .non H')
theorem Oz:¬ (("place":Str)="choice"):=by decide +kernel
theorem OD:¬ (("place":Str)="rest"):=by decide +kernel
theorem OJ:¬ (("choice":Str)="rest"):=by decide +kernel
theorem YgA (pl:Nat) (c r:Int):YZ "rest" (.int r) (YZ "choice" (.int c) (YZ "place" (.int pl) []))=iM pl c r:=by
 simp only [YZ,if_neg Oz,if_neg OD,if_neg OJ];rfl
theorem Z4E {Z6 Z5 Z1 Z2 Z4 Z3 Z0:Addr} (R:g.bU "Found" Z6 "Found.__init__" zJ ["self","place","choice","rest"]) (ZM:Cls g.K Z6) (ZF:Yc g.K Z6 "place") (ZI:Yc g.K Z6 "choice") (ZR:Yc g.K Z6 "rest"):g.Ma (1) "Found" Z6 ["self","place","choice","rest"] (Kd Z6):=by
 refine R.ma Z4z (fun vs H Q E h=>by obtain ⟨p,dx,pl,c,r,rfl,hp,q⟩:=h;rfl) fun f_ cdv A outer s H vs Q E hr h=>?_
 obtain ⟨p,dx,pl,c,r,rfl,hp,q⟩:=h;refine ⟨_,(@Ye _ _ _ _ _ (@Xm _ _ _ _ _ _ _ _ (pv 0) (pv 1) rfl) (@Ye _ _ _ _ _ (@Xm _ _ _ _ _ _ _ _ (pv 0) (pv 2) rfl) (@Yf _ _ _ (@Xm _ _ _ _ _ _ _ _ (pv 0) (pv 3) rfl)))),?_⟩;walk_at "rd";refine ⟨_,dx,_,hp,ZM,ZF,by decide,_,dx,_,Yd,ZM,ZI,XW (Nat.le_trans (Xv _ _ _) (show 1<=3 by decide)),_,dx,_,Yd,ZM,ZR,XW (Nat.le_trans (Xv _ _ _) (Nat.succ_le_succ (Nat.le_trans (Xv _ _ _) (show 1<=2 by decide)))),?_⟩;refine q _ (fun x o hx h=>by rw [Yg hx,Yg hx,Yg hx];exact h) ?_;rw [Yd];exact congrArg some (congrArg (HO.ins _ _) (YgA pl c r))
structure big (a b:Int):Prop where
 ex:∃ N:Nat,N<=8999/\a.natAbs<2^N/\b.natAbs<2^N
def Xl (ps:List (Int×Int)):Int:=(ps.map fun p=>p.1*p.2).sum
theorem WT (p:Int×Int) (ps:List (Int×Int)):Xl (p::ps)=p.1*p.2+Xl ps:=by simp [Xl]
theorem Q0 {α:Type} {ps:List α} {i:Nat} {p:α} (h:ps[i]?=some p):ps.drop i=p::ps.drop (i+1):=by
 obtain ⟨hi,e⟩:=List.getElem?_eq_some_iff.mp h;rw [List.drop_eq_getElem_cons hi,e]
inductive Ao (K:W.Frag) (C:Addr) (vs:List V) (H:Hp) (Q:VK) (E_:XK):Prop
 | mk (D:Addr) (ps:List (Int×Int)) (n:Int) (h0:vs=[.ref D,.int n]) (h1:Blk H D ps) (h2:ps.length<=1000) (h3:(∀ p∈ps,big p.1 p.2)) (h4:(∀ p∈ps,0<=p.1/\0<=p.2)) (h5:0<=n) (h6:n<Xl ps) (h7:∀ f dx H',Yj H H'->H f=none->H' f=some (.ins C dx (iM (aN ps n).1 (aN ps n).2.1 (aN ps n).2.2))->Q (.ref f) H')
theorem YbE {k:Nat} {Z6 Z5 Z1 Z2 Z4 Z3 Z0:Addr} (R:g.Raw "found_in" "found_in" yw ["blocks","number"]) {dJ:Nat} (Z4X:g.Ma dJ "Found" Z6 ["self","place","choice","rest"] (Kd Z6)) (tu:dJ+1<=k):g.Fn (k+1) "found_in" ["blocks","number"] (Ao g.K Z6):=by
 refine R.fn mU (fun vs H Q E h=>by obtain ⟨D,ps,n,rfl,⟨xs,hD,gj,hxp⟩,hl,hb,hp,h0,hn,q⟩:=h;rfl) fun f_ cdv A outer s H vs Q E hr h=>?_
 obtain ⟨D,ps,n,rfl,⟨xs,hD,gj,hxp⟩,hl,hb,hp,h0,hn,q⟩:=h;refine ⟨_,(@Ye _ _ _ _ _ (@Yz _ _ (2) _ _ _ _ mU.nd rfl (.inl rfl) Yh (by rfl) (by first | exact .inl rfl | exact .inr rfl | assumption)) (@Ye _ _ _ _ _ (@Yz _ _ (3) _ _ _ _ mU.nd rfl (.inl rfl) (pv 1) (by rfl) (by first | exact .inl rfl | exact .inr rfl | assumption)) (@Ye _ _ _ _ _ (@Wy _ _ _ _ _ _ PassesOwn.never (@Yl _ _ _ _ _ _ _ _ Eb (pv 3) (@YR _ _ _ _ _ _ _ _ QR (@Yo _ _ _ _ _ _ _ Ys (@Yo _ _ _ _ _ _ _ YL (pv 0) (pv 2) (fun _ _=>rfl)) Yh (fun _ _=>rfl)) (@Yo _ _ _ _ _ _ _ Ys (@Yo _ _ _ _ _ _ _ YL (pv 0) (pv 2) (fun _ _=>rfl)) Yh (fun _ _=>rfl))) (Yn _)) (@Ye _ _ _ _ _ (@wj _ _ (3) _ _ _ _ _ _ mU.nd rfl (.inl rfl) (@YR _ _ _ _ _ _ _ _ QR (@Yo _ _ _ _ _ _ _ Ys (@Yo _ _ _ _ _ _ _ YL (pv 0) (pv 2) (fun _ _=>rfl)) Yh (fun _ _=>rfl)) (@Yo _ _ _ _ _ _ _ Ys (@Yo _ _ _ _ _ _ _ YL (pv 0) (pv 2) (fun _ _=>rfl)) Yh (fun _ _=>rfl))) Fq (by first | exact .inl rfl | exact .inr rfl | assumption)) (@Yf _ _ _ (@wj _ _ (2) _ _ _ _ _ _ mU.nd rfl (.inl rfl) Yh Pz (by first | exact .inl rfl | exact .inr rfl | assumption))))) (@Ye _ _ _ _ _ (@Yz _ _ (4) _ _ _ _ mU.nd rfl (.inl rfl) (@Yo _ _ _ _ _ _ _ Ys (@Yo _ _ _ _ _ _ _ YL (pv 0) (pv 2) (fun _ _=>rfl)) Yh (fun _ _=>rfl)) (by rfl) (by first | exact .inl rfl | exact .inr rfl | assumption)) (@Yf _ _ _ (@Ym _ _ _ _ (@UL _ _ _ _ _ _ _ _ _ _ _ _ _ Z4X hr (@Ya _ _ _ _ _ (pv 2) (@Ya _ _ _ _ _ (@YR _ _ _ _ _ _ _ _ Vi (pv 3) (pv 4)) (@Ya _ _ _ _ _ (@YR _ _ _ _ _ _ _ _ Ve (pv 3) (pv 4)) Yb (by rfl)) (by rfl)) (by rfl)) (by omega) (by rfl) (by rfl) (by decide) (by rfl) (by rfl)))))))),?_⟩;walk_at "rd";refine Xq (α:=Nat×Int) (fun x σ H'=>σ=[some (.ref D),some (.int n),some (.int (x.1:Nat)),some (.int x.2),none]/\H=H'/\0<=x.2/\x.2<Xl (ps.drop x.1)/\aN ps n=(x.1+(aN (ps.drop x.1) x.2).1,(aN (ps.drop x.1) x.2).2)/\x.1<=ps.length) (fun x=>decide ((ps.getD x.1 (0,0)).1*(ps.getD x.1 (0,0)).2<=x.2)) (fun x=>ps.length - x.1) (0,n) ⟨rfl,rfl,h0,hn,by simp,Nat.zero_le _⟩ ?_ ?_ ?_
 ·rintro ⟨i,l⟩ σ H' ⟨rfl,rfl,g0,g1,g2,g3⟩ R r
  dsimp only at g0 g1 g2 g3;have hi:i<ps.length:=by
   rcases Nat.lt_or_ge i ps.length with c | c
   ·exact c
   ·rw [List.drop_eq_nil_of_le c] at g1;simp [Xl] at g1;omega
  have hpi:ps[i]?=some ps[i]:=List.getElem?_eq_getElem hi;have hxi:xs[i]?=some (xs[i]'(by omega)):=List.getElem?_eq_getElem _;obtain ⟨T,eT,hT⟩:=hxp i _ _ hxi hpi;obtain ⟨N,b0,b1,b2⟩:=(hb _ (List.mem_of_getElem? hpi)).ex;have rr:=r H ⟨rfl,rfl,g0,g1,g2,g3⟩;have eg:ps.getD i (0,0)=ps[i]:=by rw [List.getD_eq_getElem?_getD,hpi];rfl
  dsimp only at rr;rw [eg] at rr
  walk_at "rd";exact ⟨_,ao.of hD,_,Yr hxi,T,eT,_,au.of hT,_,rfl,_,ao.of hD,_,Yr hxi,T,eT,_,au.of hT,_,rfl,_,rfl,_,rfl,.inl (cm b1 b2 (by omega)),rr⟩
 ·rintro ⟨i,l⟩ σ H' ⟨rfl,rfl,g0,g1,g2,g3⟩ hcond
  dsimp only at g0 g1 g2 g3;have hi:i<ps.length:=by
   rcases Nat.lt_or_ge i ps.length with c | c
   ·exact c
   ·rw [List.drop_eq_nil_of_le c] at g1;simp [Xl] at g1;omega
  have hpi:ps[i]?=some ps[i]:=List.getElem?_eq_getElem hi;have hxi:xs[i]?=some (xs[i]'(by omega)):=List.getElem?_eq_getElem _;obtain ⟨T,eT,hT⟩:=hxp i _ _ hxi hpi;obtain ⟨N,b0,b1,b2⟩:=(hb _ (List.mem_of_getElem? hpi)).ex;have eg:ps.getD i (0,0)=ps[i]:=by rw [List.getD_eq_getElem?_getD,hpi];rfl
  have jH:=Q0 hpi;dsimp only at hcond;rw [eg,decide_eq_true_iff] at hcond
  rw [jH,WT] at g1
  rw [jH,aN,if_pos hcond] at g2
  walk_at "rd";refine ⟨_,ao.of hD,_,Yr hxi,T,eT,_,au.of hT,_,rfl,_,ao.of hD,_,Yr hxi,T,eT,_,au.of hT,_,rfl,_,rfl,_,rfl,.inl (cm b1 b2 (by omega)),(i+1,l - ps[i].1*ps[i].2),by simp,rfl,by dsimp only;omega,by dsimp only;omega,?_,hi,by dsimp only;omega⟩;rw [g2];dsimp only;rw [show i+((aN (ps.drop (i+1)) (l - ps[i].1*ps[i].2)).1+1)=i+1+(aN (ps.drop (i+1)) (l - ps[i].1*ps[i].2)).1 by omega]
 ·rintro ⟨i,l⟩ σ H' ⟨rfl,rfl,g0,g1,g2,g3⟩ hcond
  dsimp only at g0 g1 g2 g3;have hi:i<ps.length:=by
   rcases Nat.lt_or_ge i ps.length with c | c
   ·exact c
   ·rw [List.drop_eq_nil_of_le c] at g1;simp [Xl] at g1;omega
  have hpi:ps[i]?=some ps[i]:=List.getElem?_eq_getElem hi;have hxi:xs[i]?=some (xs[i]'(by omega)):=List.getElem?_eq_getElem _;obtain ⟨T,eT,hT⟩:=hxp i _ _ hxi hpi;obtain ⟨N,b0,b1,b2⟩:=(hb _ (List.mem_of_getElem? hpi)).ex;have eg:ps.getD i (0,0)=ps[i]:=by rw [List.getD_eq_getElem?_getD,hpi];rfl
  have jH:=Q0 hpi;dsimp only at hcond;rw [eg,decide_eq_false_iff_not] at hcond
  rw [jH,aN,if_neg hcond] at g2
  have hp2:0<ps[i].2:=by
   rcases Int.lt_or_eq_of_le (hp _ (List.mem_of_getElem? hpi)).2 with c | c
   ·exact c
   ·rw [<- c,Int.mul_zero] at hcond;omega
  walk_at "rd";refine ⟨_,ao.of hD,_,Yr hxi,T,eT,_,au.of hT,_,rfl,_,rfl,⟨hp2,Nat.lt_of_lt_of_le b2 (Nat.pow_le_pow_right (by decide) (Nat.le_trans b0 (by decide)))⟩,_,rfl,hp2,fun f dx hf hdx hne=>⟨f,dx,i,_,_,rfl,Yd,fun H' sb h=>⟨rfl,q f dx H' (Wi hf hdx sb) hf ?_⟩⟩⟩;rw [g2];exact h
theorem Ke:∀ (ps:List (Int×Int)) (n:Int),0<=n->n<Xl ps->(∀ p∈ps,0<=p.1/\0<=p.2)->∃ p,ps[(aN ps n).1]?=some p/\0<=(aN ps n).2.2/\(aN ps n).2.2<p.2
 | [],n,h0,h1,_=>by simp [Xl] at h1;omega
 | p::ps,n,h0,h1,hp=>by
  rw [WT] at h1
  by_cases c:p.1*p.2<=n
  ·obtain ⟨q,g1,g2,g3⟩:=Ke ps (n - p.1*p.2) (by omega) (by omega) fun q hq=>hp q (.tail _ hq)
   rw [aN,if_pos c];exact ⟨q,by simpa using g1,g2,g3⟩
  ·rw [aN,if_neg c]
   have h2:0<p.2:=by
    rcases Int.lt_or_eq_of_le (hp p (.head _)).2 with z | z
    ·exact z
    ·rw [<- z,Int.mul_zero] at c;omega
   exact ⟨p,rfl,Int.emod_nonneg _ (by omega),Int.emod_lt_of_pos _ h2⟩
theorem Aq:∀ (ps:List (Int×Int)) (n:Int),0<=n->n<Xl ps->(∀ p∈ps,0<=p.1/\0<=p.2)->∃ p,ps[(aN ps n).1]?=some p/\0<=(aN ps n).2.1/\(aN ps n).2.1<p.1
 | [],n,h0,h1,_=>by simp [Xl] at h1;omega
 | p::ps,n,h0,h1,hp=>by
  rw [WT] at h1
  by_cases c:p.1*p.2<=n
  ·obtain ⟨q,g1,g2,g3⟩:=Aq ps (n - p.1*p.2) (by omega) (by omega) fun q hq=>hp q (.tail _ hq)
   rw [aN,if_pos c];exact ⟨q,by simpa using g1,g2,g3⟩
  ·rw [aN,if_neg c]
   have h2:0<p.2:=by
    rcases Int.lt_or_eq_of_le (hp p (.head _)).2 with z | z
    ·exact z
    ·rw [<- z,Int.mul_zero] at c;omega
   exact ⟨p,rfl,Int.ediv_nonneg h0 (by omega),Int.ediv_lt_of_lt_mul h2 (by omega)⟩
mutual
inductive VO (U:Addr->Prop) (H:Hp):V->PyData->Prop
 | int (i:Int):VO U H (.int i) (.int i)
 | str (x:Str) (h:PyData.strOk x=true):VO U H (.str x) (.str x)
 | tup {a:Addr} {vs:List V} {ds:List PyData}:¬ U a->H a=some (.tup vs)->bD U H vs ds->VO U H (.ref a) (.tuple ds)
inductive bD (U:Addr->Prop) (H:Hp):List V->List PyData->Prop
 | nil:bD U H [] []
 | cons {v:V} {d:PyData} {vs:List V} {ds:List PyData}:VO U H v d->bD U H vs ds->bD U H (v::vs) (d::ds)
end
mutual
theorem VO.mono {U U':Addr->Prop} {H H':Hp} (h1:∀ a us,¬ U a->H a=some (.tup us)->¬ U' a/\H' a=some (.tup us)):∀ {v:V} {d:PyData},VO U H v d->VO U' H' v d
 | _,_,.int i => .int i
 | _,_,.str x h => .str x h
 | _,_,.tup k1 k2 k3 => .tup (h1 _ _ k1 k2).1 (h1 _ _ k1 k2).2 (bD.mono h1 k3)
theorem bD.mono {U U':Addr->Prop} {H H':Hp} (h1:∀ a us,¬ U a->H a=some (.tup us)->¬ U' a/\H' a=some (.tup us)):∀ {vs:List V} {ds:List PyData},bD U H vs ds->bD U' H' vs ds
 | _,_,.nil => .nil
 | _,_,.cons a b => .cons (VO.mono h1 a) (bD.mono h1 b)
end
mutual
inductive Va (bk:List Nat->Sh):Sh->Nat->Int->PyData->Prop
 | w (lo:Int) (span s:Nat) (r:Int):Va bk (.w lo span) s r (.int (lo+1*2^s / 2^1+r))
 | use {x:List Nat} {s:Nat} {r:Int} {d:PyData}:Va bk (bk x) s r d->Va bk (.use x) (s+1) r d
 | pick {mk:List (List Nat)} {ps:List Sh} {s:Nat} {r:Int} {p:Sh} {m:List Nat} {d:PyData}:ps[(aN (ps.map fun p=>(cnt bk p s,1)) r).1]?=some p->mk[(aN (ps.map fun p=>(cnt bk p s,1)) r).1]?=some m->Va bk p s (aN (ps.map fun p=>(cnt bk p s,1)) r).2.1 d->Va bk (.pick mk ps) s r (.tuple [.str (S m),d])
 | row {ps:List Sh} {s:Nat} {r:Int} {ds:List PyData}:Vr bk ps s r ds->Va bk (.row ps) s r (.tuple ds)
inductive Vr (bk:List Nat->Sh):List Sh->Nat->Int->List PyData->Prop
 | nil (s:Nat) (r:Int):Vr bk [] s r []
 | cons {p:Sh} {ps:List Sh} {s:Nat} {r:Int} {d:PyData} {ds:List PyData}:Va bk p (aN ((List.range (s+1)).map fun f=>(cnt bk p f,YD bk ps (s - f))) r).1 (aN ((List.range (s+1)).map fun f=>(cnt bk p f,YD bk ps (s - f))) r).2.1 d->Vr bk ps (s - (aN ((List.range (s+1)).map fun f=>(cnt bk p f,YD bk ps (s - f))) r).1) (aN ((List.range (s+1)).map fun f=>(cnt bk p f,YD bk ps (s - f))) r).2.2 ds->Vr bk (p::ps) s r (d::ds)
end
structure VQ (C:Cs) (w:Wo) (t:Sw) (H:Hp) (prs:aL) (p:Addr) (sh:Sh) (s:Nat) (r:Int):Prop where
 W:WI C w t H
 rg:w.reg p=some sh
 ob:cg prs
 bk:w.bk=aD prs
 ok:aH prs sh
 wt:wt sh<=24
 M:w.M=2
 cn:s<t.ns p
 bN:s<=7
 r0:0<=r
 r1:r<cnt w.bk sh s
 rd:∀ p sh,w.reg p=some sh->fZ t p
inductive aM (C:Cs) (k l:Nat) (vs:List V) (H:Hp) (Q:VK) (E_:XK):Prop
 | mk (w:Wo) (t:Sw) (prs:aL) (p:Addr) (sh:Sh) (s:Nat) (r:Int) (h0:vs=[.ref p,.int (s:Nat),.int r]) (h1:kind sh=k) (h2:VQ C w t H prs p sh s r) (h3:4*s+dep sh+1<=l) (h4:∀ v d t' H',Tr C w t H t' H' 8 0->VO t'.U H' v d->Va w.bk sh s r d->Q v H')
theorem XQ {C:Cs} {k:Nat} {vs:List V} {H:Hp} {Q:VK} {E:XK} (h:aM C k 0 vs H Q E):False:=by
 obtain ⟨w,t,prs,p,sh,s,r,_,_,_,h,_⟩:=h;omega
variable {m:Nat}
theorem Kf {k:Nat} {Z6 Z5 Z1 Z2 Z4 Z3 Z0:Addr} (R:g.aO Z0 "value_at" "WholeMaker.value_at" zc ["self","size","number"]) (zR:g.Fn k "least_distance" ["size"] (nY)) (Z8:Cls g.K Z0) (Z7:Yc g.K Z0 "counts") (Zf:Yc g.K Z0 "low") (Zd:Yc g.K Z0 "span"):g.Me (k+1) Z0 "value_at" ["self","size","number"] (aM (Cs.mk Z0 Z2 Z4 Z1 Z3) 0 (m+1)):=by
 refine R.me Z2R (fun vs H Q E h=>by obtain ⟨w,t,prs,p,sh,sz,r,rfl,hk,vq,hl,q⟩:=h;rfl) fun f_ cdv A outer s H vs Q E hr h=>?_
 obtain ⟨w,t,prs,p,sh,sz,r,rfl,hk,vq,hl,q⟩:=h;refine ⟨_,(@Yf _ _ _ (@Ym _ _ _ _ (@YR _ _ _ _ _ _ _ _ Wp (@YR _ _ _ _ _ _ _ _ Wp (@YB _ _ _ _ _ (pv 0) rfl) (@YA _ _ _ _ _ _ _ _ _ _ _ _ zR hr (@Ya _ _ _ _ _ (pv 1) Yb (by rfl)) (by omega) (by rfl) (by rfl) (by decide) (by rfl) (by rfl))) (pv 2)))),?_⟩
 cases sh with
 | w lo span =>
  obtain ⟨dx,c,fs,hU,hd,hsm,hns,hp,bh,hc,hsub⟩:=vq.W.at_ p _ vq.rg;have hsub:fs=fW lo span:=hsub;subst hsub;have bN:=vq.bN;walk_at "rd";exact ⟨_,_,_,hp,Z8,Zf,_,rfl,_,rfl,by omega,_,rfl,_,rfl,q _ _ t H (.refl vq.W _ _) (.int _) (.w lo span sz r)⟩
 | _=>simp [kind] at hk
abbrev Ar (C:Cs) (l:Nat):List (Addr×Sp):=[(C.w,aM C 0 l),(C.row,aM C 2 l),(C.pick,aM C 3 l),(C.use,aM C 5 l)]
theorem VU {C:Cs} {w:Wo} {t:Sw} {H:Hp} {prs:aL} {a:Addr} {sh:Sh} {l sz:Nat} {r:Int} {Q:VK} (V:VQ C w t H prs a sh sz r) (hf:4*sz+dep sh+1<=l) (q:∀ v d t' H',Tr C w t H t' H' 8 0->VO t'.U H' v d->Va w.bk sh sz r d->Q v H'):gH (Ar C l) H a "value_at" fun sp=>sp [.ref a,.int (sz:Nat),.int r] H Q E0:=by
 obtain ⟨dx,c,fs,hU,hd,hsm,hns,hp,bh,hc,hsub⟩:=V.W.at_ a sh V.rg;have mem:(Ub C sh,aM C (kind sh) l)∈Ar C l:=by
  cases sh with
  | w lo span=>exact .head _
  | row ps=>exact .tail _ (.head _)
  | pick mk ps=>exact .tail _ (.tail _ (.head _))
  | use x=>exact .tail _ (.tail _ (.tail _ (.head _)))
 exact ⟨_,_,mem,dx,_,hp,WS (by decide +kernel) hsub,w,t,prs,a,sh,sz,r,rfl,rfl,V,hf,q⟩
theorem Kg {k:Nat} {Z6 Z5 Z1 Z2 Z4 Z3 Z0:Addr} (R:g.aO Z3 "value_at" "UseMaker.value_at" zH ["self","size","number"]) (ZE:g.Me k Z0 "value_at" ["self","size","number"] (aM (Cs.mk Z0 Z2 Z4 Z1 Z3) 0 m)) (ZJ:g.Me k Z2 "value_at" ["self","size","number"] (aM (Cs.mk Z0 Z2 Z4 Z1 Z3) 2 m)) (ZH:g.Me k Z1 "value_at" ["self","size","number"] (aM (Cs.mk Z0 Z2 Z4 Z1 Z3) 3 m)) (ZK:g.Me k Z3 "value_at" ["self","size","number"] (aM (Cs.mk Z0 Z2 Z4 Z1 Z3) 5 m)) (Za:Cls g.K Z1) (Z9:Yc g.K Z1 "counts") (Zg:Yc g.K Z1 "marks") (Ze:Yc g.K Z1 "parts") (Zh:Cls g.K Z2) (Zb:Yc g.K Z2 "counts") (Zl:Yc g.K Z2 "parts") (Zk:Yc g.K Z2 "table") (Zj:Cls g.K Z3) (Zc:Yc g.K Z3 "counts") (Zi:Yc g.K Z3 "named") (Z8:Cls g.K Z0) (Z7:Yc g.K Z0 "counts") (Zf:Yc g.K Z0 "low") (Zd:Yc g.K Z0 "span"):g.Me (k+1) Z3 "value_at" ["self","size","number"] (aM (Cs.mk Z0 Z2 Z4 Z1 Z3) 5 (m+1)):=by
 refine R.me Z3r (fun vs H Q E h=>by obtain ⟨w,t,prs,p,sh,sz,r,rfl,hk,vq,hl,q⟩:=h;rfl) fun f_ cdv A outer s H vs Q E hr h=>?_
 obtain ⟨w,t,prs,p,sh,sz,r,rfl,hk,vq,hl,q⟩:=h;refine ⟨_,(@Yf _ _ _ (@Ym _ _ _ _ (@XH _ _ _ _ _ _ _ _ _ _ _ _ _ _ _ (Yp ZE Z8 (Yp ZJ Zh (Yp ZH Za (Yp ZK Zj Xp)))) hr (@YB _ _ _ _ _ (pv 0) rfl) (@Ya _ _ _ _ _ (@YR _ _ _ _ _ _ _ _ WO (pv 1) Yh) (@Ya _ _ _ _ _ (pv 2) Yb (by rfl)) (by rfl)) (by omega) (by rfl) (by rfl) (by rfl) (by rfl)))),?_⟩
 cases sh with
 | use x =>
  obtain ⟨dx,c,fs,hU,hd,hsm,hns,hp,bh,hc,hsub⟩:=vq.W.at_ p _ vq.rg;obtain ⟨a,rfl,hga,hcn⟩:=hsub;have hok:=vq.ok;rw [aH] at hok
  obtain ⟨q0,iK⟩:=hok;obtain ⟨eb,hm0⟩:=Wg iK;have e0:w.bk x=q0.2:=by rw [vq.bk];exact eb
  have h1:=vq.r1;have h0:=vq.r0;have hc1:=vq.cn;have bN:=vq.bN;obtain ⟨j,rfl⟩:∃ j,sz=j+1:=⟨sz - 1,by
   cases sz with
   | zero=>rw [WD] at h1;omega
   | succ j=>rfl⟩
  rw [W7] at h1
  have hdp:=vq.ob.dp q0 hm0;have VA:VQ (Cs.mk Z0 Z2 Z4 Z1 Z3) w t H prs a (w.bk x) j r:=⟨vq.W,hga,vq.ob,vq.bk,by rw [e0];exact vq.ob.ok q0 hm0,by rw [e0];exact vq.ob.wt q0 hm0,vq.M,by omega,by omega,h0,h1,vq.rd⟩;have hd2:dep (w.bk x)<=2:=by rw [e0];exact hdp
  walk_at "rd";rw [show ((j+1:Nat):Int) - 1=(j:Int) by omega];refine ⟨_,_,_,hp,Zj,Zi,_,Jo _ _,a,rfl,?_⟩;exact VU VA (by omega) fun v d t' H' T1 hv hva=>q v d t' H' T1 hv (.use hva)
 | _=>simp [kind] at hk
theorem Yfo (c M P:Addr):(mf c (fP M P)).lookup ("marks":Str)=some (.ref M):=by
 unfold mf fP;rw [List.lookup_cons,show (("marks":Str)==("counts":Str))=false by decide +kernel,List.lookup_cons,show (("marks":Str)==("marks":Str))=true by decide +kernel]
theorem Kh {i:Int} {n:Nat} (h0:0<=i) (h:i<=2^n):i.natAbs<2^(n+1):=by
 have e:(2:Int)^n=((2^n:Nat):Int):=by norm_cast
 rw [e] at h
 rw [Nat.pow_succ];have:0<2^n:=Nat.pow_pos (by decide);omega
theorem Kl {i j:Int} {n m:Nat} (h0:0<=i) (h:i<=2^n) (g0:0<=j) (g:j<=2^m) (hn:n<=8990) (hm:m<=8990):big i j :=
 ⟨8991,by decide,Nat.lt_of_lt_of_le (Kh h0 h) (Nat.pow_le_pow_right (by decide) (by omega)),Nat.lt_of_lt_of_le (Kh g0 g) (Nat.pow_le_pow_right (by decide) (by omega))⟩
theorem Km (f:Sh->Int) (ps:List Sh):Xl (ps.map fun p=>(f p,1))=(ps.map f).sum:=by
 unfold Xl;rw [List.map_map]
 congr 1
 exact List.map_congr_left fun p _=>Int.mul_one _
theorem VO.same {U:Addr->Prop} {H H':Hp} (s:Yj H H') {v:V} {d:PyData} (h:VO U H v d):VO U H' v d:=h.mono fun _ _ n e=>⟨n,s _ _ e⟩
theorem Ko {k:Nat} {Z6 Z5 Z1 Z2 Z4 Z3 Z0:Addr} (R:g.aO Z1 "value_at" "PickMaker.value_at" zE ["self","size","number"]) (Av:g.Fn k "found_in" ["blocks","number"] (Ao g.K Z6)) (ZE:g.Me k Z0 "value_at" ["self","size","number"] (aM (Cs.mk Z0 Z2 Z4 Z1 Z3) 0 m)) (ZJ:g.Me k Z2 "value_at" ["self","size","number"] (aM (Cs.mk Z0 Z2 Z4 Z1 Z3) 2 m)) (zX:g.Me k Z1 "blocks_at" ["self","size"] (pU (Cs.mk Z0 Z2 Z4 Z1 Z3) 130)) (ZH:g.Me k Z1 "value_at" ["self","size","number"] (aM (Cs.mk Z0 Z2 Z4 Z1 Z3) 3 m)) (ZK:g.Me k Z3 "value_at" ["self","size","number"] (aM (Cs.mk Z0 Z2 Z4 Z1 Z3) 5 m)) (ZM:Cls g.K Z6) (ZF:Yc g.K Z6 "place") (ZI:Yc g.K Z6 "choice") (ZR:Yc g.K Z6 "rest") (Za:Cls g.K Z1) (Z9:Yc g.K Z1 "counts") (Zg:Yc g.K Z1 "marks") (Ze:Yc g.K Z1 "parts") (Zh:Cls g.K Z2) (Zb:Yc g.K Z2 "counts") (Zl:Yc g.K Z2 "parts") (Zk:Yc g.K Z2 "table") (Zj:Cls g.K Z3) (Zc:Yc g.K Z3 "counts") (Zi:Yc g.K Z3 "named") (Z8:Cls g.K Z0) (Z7:Yc g.K Z0 "counts") (Zf:Yc g.K Z0 "low") (Zd:Yc g.K Z0 "span"):g.Me (k+1) Z1 "value_at" ["self","size","number"] (aM (Cs.mk Z0 Z2 Z4 Z1 Z3) 3 (m+1)):=by
 refine R.me Ir (fun vs H Q E h=>by obtain ⟨w,t,prs,p,sh,sz,r,rfl,hk,vq,hl,q⟩:=h;rfl) fun f_ cdv A outer s H vs Q E hr h=>?_
 obtain ⟨w,t,prs,p,sh,sz,r,rfl,hk,vq,hl,q⟩:=h;refine ⟨_,(@Ye _ _ _ _ _ (@Yz _ _ (3) _ _ _ _ Ir.nd rfl (.inl rfl) (@YA _ _ _ _ _ _ _ _ _ _ _ _ Av hr (@Ya _ _ _ _ _ (@XA _ _ _ _ _ _ _ _ _ _ _ _ _ _ _ _ zX Za hr (pv 0) (@Ya _ _ _ _ _ (pv 1) Yb (by rfl)) (by omega) (by rfl) (by rfl) (by rfl) (by rfl)) (@Ya _ _ _ _ _ (pv 2) Yb (by rfl)) (by rfl)) (by omega) (by rfl) (by rfl) (by decide) (by rfl) (by rfl)) (by rfl) (by first | exact .inl rfl | exact .inr rfl | assumption)) (@Yf _ _ _ (@Ym _ _ _ _ (@Yu _ _ _ _ _ (@Ya _ _ _ _ _ (@Yo _ _ _ _ _ _ _ YL (@YB _ _ _ _ _ (pv 0) rfl) (@YB _ _ _ _ _ (pv 3) rfl) (fun _ _=>rfl)) (@Ya _ _ _ _ _ (@XH _ _ _ _ _ _ _ _ _ _ _ _ _ _ _ (Yp ZE Z8 (Yp ZJ Zh (Yp ZH Za (Yp ZK Zj Xp)))) hr (@Yo _ _ _ _ _ _ _ YL (@YB _ _ _ _ _ (pv 0) rfl) (@YB _ _ _ _ _ (pv 3) rfl) (fun _ _=>rfl)) (@Ya _ _ _ _ _ (pv 1) (@Ya _ _ _ _ _ (@YB _ _ _ _ _ (pv 3) rfl) Yb (by rfl)) (by rfl)) (by omega) (by rfl) (by rfl) (by rfl) (by rfl)) Yb (by rfl)) (by rfl)))))),?_⟩
 cases sh with
 | pick mk ps =>
  obtain ⟨dx,c,fs,hU,hd,hsm,hns,hp,bh,hc,hsub⟩:=vq.W.at_ p _ vq.rg;have hno:=fun {m:Str} (h:isF m=false)=>WS (c:=c) h hsub
  obtain ⟨M,P,as,rfl,h2,h3,h4,h5,h6,h7⟩:=hsub;have hdr:dep (.pick mk ps)=YU ps+1:=by rw [dep]
  have hok:=vq.ok;rw [aH] at hok
  obtain ⟨hml,hpl,jJ,hstr⟩:=hok;have bN:=vq.bN;have hcn:=vq.cn;have hM:=vq.M;have bI:=vq.wt;rw [wt] at bI
  have cb:∀ p∈ps,0<=cnt w.bk p sz/\cnt w.bk p sz<=2^(300*sz+(12*wt p - 6))/\wt p<=24:=fun p' hp'=>by
   have h1:=zY hp';rw [vq.bk];have:=Vj prs vq.ob p' sz (by omega) (We jJ hp') (by omega);exact ⟨this.1,this.2,by omega⟩
  have nn:∀ x∈ps.map (fun p=>(cnt w.bk p sz,(1:Int))),0<=x.1/\0<=x.2:=fun x hx=>by
   obtain ⟨p',hp',rfl⟩:=List.mem_map.mp hx;exact ⟨(cb p' hp').1,(by decide:(0:Int)<=1)⟩
  have hr1:=vq.r1;rw [WC,<- Km (fun p=>cnt w.bk p sz)] at hr1
  obtain ⟨x,e1,e2,e3⟩:=Aq _ r vq.r0 hr1 nn;generalize hfn:aN (ps.map fun p=>(cnt w.bk p sz,(1:Int))) r=fd at e1 e2 e3;rw [List.getElem?_map] at e1
  obtain ⟨p',hp',rfl⟩:=Option.map_eq_some_iff.mp e1;have hi:=(List.getElem?_eq_some_iff.mp hp').1;have hmk:mk[fd.1]?=some (mk[fd.1]'(by omega)):=List.getElem?_eq_getElem _;generalize mk[fd.1]'(by omega)=Kp at hmk;have hal:=h6.1;have hai:as[fd.1]?=some (as[fd.1]'(by omega)):=List.getElem?_eq_getElem _;generalize as[fd.1]'(by omega)=a at hai;have hga:=h6.2 fd.1 a p' hai hp';have hdp:dep p'<=YU ps:=WB (List.mem_of_getElem? hp');refine Yv fun R rr=>?_
  walk_at "rd";refine ⟨_,_,hp,hno (by decide +kernel),w,t,p,mk,ps,sz,rfl,vq.W,vq.rg,by omega,by omega,by unfold fu;rw [hM];omega,fun p' sh' hr' _=>vq.rd p' sh' hr',fun D t1 H1 T1 gD cX hB hpc=>?_⟩;refine ⟨D,_,r,rfl,hB,by rw [List.length_map];omega,fun x hx=>?_,nn,vq.r0,hr1,fun f dxf H2 s2 gf hf=>rr _ _ ?_⟩
  ·obtain ⟨p2,hp2,rfl⟩:=List.mem_map.mp hx
   obtain ⟨c1,c2,c3⟩:=cb p2 hp2;exact Kl (m:=0) c1 c2 (by decide:(0:Int)<=1) (by decide:(1:Int)<=2^0) (by omega) (by decide)
  ·rw [hfn] at hf
   have T2:=T1.same s2;have hp2:=T2.fr _ _ hU.1 hp;have VA:VQ (Cs.mk Z0 Z2 Z4 Z1 Z3) w t1 H2 prs a p' sz fd.2.1:=⟨T2.wi,hga,vq.ob,vq.bk,We jJ (List.mem_of_getElem? hp'),(cb p' (List.mem_of_getElem? hp')).2.2,vq.M,hpc a ⟨dx,c,M,P,as,hp,h5,List.mem_of_getElem? hai⟩,bN,e2,e3,fun p' sh' hr'=>(T2.gr p' sh' hr').un (vq.rd p' sh' hr')⟩;walk_at "rd";refine ⟨_,_,_,hp2,Za,Zg,_,Yfo _ _ _,_,_,_,hf,ZM,ZF,_,rfl,M,rfl,_,rfl,_,ao.of (T2.fr _ _ h2.1 h4),_,Yr (by rw [List.getElem?_map,hmk];rfl),?_⟩;refine ⟨_,_,_,hp2,Za,Ze,_,Jm _ _ _,_,_,_,hf,ZM,ZF,_,rfl,P,rfl,_,rfl,_,ao.of (T2.fr _ _ h3.1 h5),_,Yr (by rw [List.getElem?_map,hai];rfl),a,rfl,?_⟩;refine (VU (l:=m) VA (by omega) fun v d t3 H3 T3 hv hva=>?_).map fun sp h=>⟨_,_,_,hf,ZM,ZI,_,rfl,h⟩
   refine ⟨few (by decide),fun X gX=>?_⟩;have sX:=Yj.aj gX (.tup [.str (S Kp),v]);refine q _ (.tuple [.str (S Kp),d]) t3 _ (((T2.mono (by omega)).trans T3).same sX) (.tup (T3.wi.new gX).2 Yd (.cons (.str _ (hstr _ (List.mem_of_getElem? hmk))) (.cons (hv.same sX) .nil))) ?_;exact .pick (by rw [hfn];exact hp') (by rw [hfn];exact hmk) (by rw [hfn];exact hva)
 | _=>simp [kind] at hk
theorem bD.same {U:Addr->Prop} {H H':Hp} (s:Yj H H') {vs:List V} {ds:List PyData} (h:bD U H vs ds):bD U H' vs ds:=h.mono fun _ _ n e=>⟨n,s _ _ e⟩
theorem bD.append {U:Addr->Prop} {H:Hp} {vs':List V} {ds':List PyData}:∀ {vs:List V} {ds:List PyData},bD U H vs ds->bD U H vs' ds'->bD U H (vs++vs') (ds++ds')
 | _,_,.nil,h=>h
 | _,_,.cons a b,h => .cons a (b.append h)
theorem bD.tr {C:Cs} {w:Wo} {t t1:Sw} {H H1:Hp} {s d:Nat} (W:WI C w t H) (T:Tr C w t H t1 H1 s d) {v:List V} {x:List PyData} (h:bD t.U H v x):bD t1.U H1 v x:=h.mono fun a o n e=>⟨T.ours n e,T.fr _ _ (by
 cases z:w.D a with
 | none=>rfl
 | some y=>exact absurd (W.ow a y z) n) e⟩
theorem Kq (pl:Nat) (c r:Int):(iM pl c r).lookup ("place":Str)=some (.int pl):=rfl
theorem Ydf (pl:Nat) (c r:Int):(iM pl c r).lookup ("choice":Str)=some (.int c):=by
 unfold iM;rw [List.lookup_cons,show (("choice":Str)==("place":Str))=false by decide +kernel,List.lookup_cons,show (("choice":Str)==("choice":Str))=true by decide +kernel]
theorem Yfp (pl:Nat) (c r:Int):(iM pl c r).lookup ("rest":Str)=some (.int r):=by
 unfold iM;rw [List.lookup_cons,show (("rest":Str)==("place":Str))=false by decide +kernel,List.lookup_cons,show (("rest":Str)==("choice":Str))=false by decide +kernel,List.lookup_cons,show (("rest":Str)==("rest":Str))=true by decide +kernel]
theorem Yeq (c P T:Addr):(mf c (fR P T)).lookup ("parts":Str)=some (.ref P):=by
 unfold mf fR;rw [List.lookup_cons,show (("parts":Str)==("counts":Str))=false by decide +kernel,List.lookup_cons,show (("parts":Str)==("parts":Str))=true by decide +kernel]
def bY (bk:List Nat->Sh) (p:Sh) (ps:List Sh) (s:Nat):List (Int×Int):=(List.range (s+1)).map fun f=>(cnt bk p f,YD bk ps (s - f))
theorem Q1 (bk:List Nat->Sh) (p:Sh) (ps:List Sh) (s:Nat):Xl (bY bk p ps s)=YD bk (p::ps) s:=by
 rw [XT,Xl,bY,List.map_map];rfl
theorem Wx {bk:List Nat->Sh} {p:Sh} {ps:List Sh} {s i:Nat} {x:Int×Int} (h:(bY bk p ps s)[i]?=some x):i<=s/\x=(cnt bk p i,YD bk ps (s - i)):=by
 unfold bY at h;rw [List.getElem?_map] at h
 obtain ⟨f,hf,rfl⟩:=Option.map_eq_some_iff.mp h;have hi:=(List.getElem?_eq_some_iff.mp hf).1;rw [List.length_range] at hi
 rw [List.getElem?_range hi] at hf
 cases hf
 exact ⟨by omega,rfl⟩
inductive RV (C:Cs) (w:Wo) (t:Sw) (H:Hp) (p D:Addr) (ps:List Sh) (sz:Nat) (r:Int) (i:Nat) (σ:St) (H':Hp):Prop
 | mk (o6 o7 o8:Option V) (left:Nat) (Y0:Int) (vs:List V) (ds:List PyData) (t':Sw) (e:σ=[some (.ref p),some (.int (sz:Nat)),some (.int r),some (.ref D),some (.int (left:Nat)),some (.int Y0),o6,o7,o8]) (l:vs.length=i) (hd:H' D=some (.lst vs)) (hU:¬ t'.U D) (hl:left<=sz) (r0:0<=Y0) (r1:Y0<YD w.bk (ps.drop i) left) (T:Tr C w t H t' H' 8 0) (v:bD t'.U H' vs ds) (a:∀ es,Vr w.bk (ps.drop i) left Y0 es->Vr w.bk ps sz r (ds++es))
theorem Yfq (P L:Addr):(Wv P L).lookup ("blocks_at":Str)=none:=by
 unfold Wv;rw [List.lookup_cons,show (("blocks_at":Str)==("parts":Str))=false by decide +kernel,List.lookup_cons,show (("blocks_at":Str)==("ways":Str))=false by decide +kernel];rfl
theorem Kr {k:Nat} {Z6 Z5 Z1 Z2 Z4 Z3 Z0:Addr} (R:g.aO Z2 "value_at" "RowMaker.value_at" zx ["self","size","number"]) (Av:g.Fn k "found_in" ["blocks","number"] (Ao g.K Z6)) (ZE:g.Me k Z0 "value_at" ["self","size","number"] (aM (Cs.mk Z0 Z2 Z4 Z1 Z3) 0 m)) (zW:g.Me k Z4 "blocks_at" ["self","place","left"] (pR (Cs.mk Z0 Z2 Z4 Z1 Z3) 130)) (ZJ:g.Me k Z2 "value_at" ["self","size","number"] (aM (Cs.mk Z0 Z2 Z4 Z1 Z3) 2 m)) (ZH:g.Me k Z1 "value_at" ["self","size","number"] (aM (Cs.mk Z0 Z2 Z4 Z1 Z3) 3 m)) (ZK:g.Me k Z3 "value_at" ["self","size","number"] (aM (Cs.mk Z0 Z2 Z4 Z1 Z3) 5 m)) (g8:g.mg "enumerate"=none) (Zv:g.mg "tuple"=none) (ZM:Cls g.K Z6) (ZF:Yc g.K Z6 "place") (ZI:Yc g.K Z6 "choice") (ZR:Yc g.K Z6 "rest") (Za:Cls g.K Z1) (Z9:Yc g.K Z1 "counts") (Zg:Yc g.K Z1 "marks") (Ze:Yc g.K Z1 "parts") (Zh:Cls g.K Z2) (Zb:Yc g.K Z2 "counts") (Zl:Yc g.K Z2 "parts") (Zk:Yc g.K Z2 "table") (Zn:Cls g.K Z4) (Zr:Yc g.K Z4 "parts") (Zm:Yc g.K Z4 "ways") (Zj:Cls g.K Z3) (Zc:Yc g.K Z3 "counts") (Zi:Yc g.K Z3 "named") (Z8:Cls g.K Z0) (Z7:Yc g.K Z0 "counts") (Zf:Yc g.K Z0 "low") (Zd:Yc g.K Z0 "span"):g.Me (k+1) Z2 "value_at" ["self","size","number"] (aM (Cs.mk Z0 Z2 Z4 Z1 Z3) 2 (m+1)):=by
 refine R.me ZG (fun vs H Q E h=>by obtain ⟨w,t,prs,p,sh,sz,r,rfl,hk,vq,hl,q⟩:=h;rfl) fun f_ cdv A outer s H vs Q E hr h=>?_
 obtain ⟨w,t,prs,p,sh,sz,r,rfl,hk,vq,hl,q⟩:=h;refine ⟨_,(@Ye _ _ _ _ _ (@Yz _ _ (3) _ _ _ _ ZG.nd rfl (.inl rfl) (@Y5 _ _ _ _ Yb) (by rfl) (by first | exact .inl rfl | exact .inr rfl | assumption)) (@Ye _ _ _ _ _ (@Yz _ _ (4) _ _ _ _ ZG.nd rfl (.inl rfl) (pv 1) (by rfl) (by first | exact .inl rfl | exact .inr rfl | assumption)) (@Ye _ _ _ _ _ (@Yz _ _ (5) _ _ _ _ ZG.nd rfl (.inl rfl) (pv 2) (by rfl) (by first | exact .inl rfl | exact .inr rfl | assumption)) (@Ye _ _ _ _ _ (@WN _ _ _ _ _ _ _ _ PassesOwn.never rfl (@Tw _ _ _ _ _ _ _ _ rfl g8 (@Ya _ _ _ _ _ (@YB _ _ _ _ _ (pv 0) rfl) Yb (by rfl)) (by rfl)) (@VI _ _ _ _ _ (2) rfl (@Xk _ _ _ _ _ (@YK _ _ (6) _ ZG.nd rfl (.inl rfl) (by first | exact .inl rfl | exact .inr rfl | assumption)) (@Xk _ _ _ _ _ (@YK _ _ (7) _ ZG.nd rfl (.inl rfl) (by first | exact .inl rfl | exact .inr rfl | assumption)) W6 (by rfl)) (by rfl)) (by rfl) (by rfl)) (@Ye _ _ _ _ _ (@Yz _ _ (8) _ _ _ _ ZG.nd rfl (.inl rfl) (@YA _ _ _ _ _ _ _ _ _ _ _ _ Av hr (@Ya _ _ _ _ _ (@XA _ _ _ _ _ _ _ _ _ _ _ _ _ _ _ _ zW Zn hr (@YB _ _ _ _ _ (pv 0) rfl) (@Ya _ _ _ _ _ (pv 6) (@Ya _ _ _ _ _ (pv 4) Yb (by rfl)) (by rfl)) (by omega) (by rfl) (by rfl) (by rfl) (by rfl)) (@Ya _ _ _ _ _ (pv 5) Yb (by rfl)) (by rfl)) (by omega) (by rfl) (by rfl) (by decide) (by rfl) (by rfl)) (by rfl) (by first | exact .inl rfl | exact .inr rfl | assumption)) (@Ye _ _ _ _ _ (@Xb _ _ _ _ (@Vv _ _ _ _ _ _ _ _ _ _ _ _ F.plainAttrs_list F.slot_list_append F.type_list_append Xu (pv 3) (@Ya _ _ _ _ _ (@XH _ _ _ _ _ _ _ _ _ _ _ _ _ _ _ (Yp ZE Z8 (Yp ZJ Zh (Yp ZH Za (Yp ZK Zj Xp)))) hr (pv 7) (@Ya _ _ _ _ _ (@YB _ _ _ _ _ (pv 8) rfl) (@Ya _ _ _ _ _ (@YB _ _ _ _ _ (pv 8) rfl) Yb (by rfl)) (by rfl)) (by omega) (by rfl) (by rfl) (by rfl) (by rfl)) Yb (by rfl)) (by rfl) (by rfl) (by rfl) (by rfl) (by rfl)) (by rfl)) (@Ye _ _ _ _ _ (@wj _ _ (4) _ _ _ _ _ _ ZG.nd rfl (.inl rfl) (@YB _ _ _ _ _ (pv 8) rfl) Fq (by first | exact .inl rfl | exact .inr rfl | assumption)) (@Yf _ _ _ (@Yz _ _ (5) _ _ _ _ ZG.nd rfl (.inl rfl) (@YB _ _ _ _ _ (pv 8) rfl) (by rfl) (by first | exact .inl rfl | exact .inr rfl | assumption)))))) (by intro _;rfl)) (@Yf _ _ _ (@Ym _ _ _ _ (@Vz _ _ _ _ _ _ _ _ _ _ Zv X9 (@Ya _ _ _ _ _ (pv 3) Yb (by rfl)) (by decide +kernel) (by rfl) (by rfl) (by decide) (by decide) (by rfl) (by rfl)))))))),?_⟩
 cases sh with
 | row ps =>
  obtain ⟨dx,c,fs,hU,hd,hsm,hns,hp,bh,hc,hsub⟩:=vq.W.at_ p _ vq.rg;obtain ⟨P,T,dt,L,as,ws,rfl,h2,h3,h4,h5,h6,h7,h8,h9,h10,h11,h12⟩:=hsub;have hT:Tb (Cs.mk Z0 Z2 Z4 Z1 Z3) H p T:=⟨dx,c,P,hp⟩;have hdr:dep (.row ps)=YU ps+1:=by rw [dep]
  have hok:=vq.ok;rw [aH] at hok
  obtain ⟨hpl,jJ⟩:=hok;have bN:=vq.bN;have hcn:=vq.cn;have hM:=vq.M;have bI:=vq.wt;rw [wt] at bI
  have hr1:=vq.r1;rw [XI] at hr1
  have hal:=h6.1;have hbd:=fun (i s:Nat) (hs:s<=sz)=>UQ prs vq.ob (ps.drop i) s (by omega) (Qe i jJ) (by have:=Ud ps i;omega)
  refine Yv fun R rr=>?_
  walk_at "rd";refine ⟨few (by decide),fun D hD=>rr _ _ ?_⟩;have sD:=Yj.aj hD (.lst []);obtain ⟨dD,uD⟩:=vq.W.new hD;refine Yv fun R rr=>?_
  walk_at "rd";refine rr _ _ (Yv fun R rr=>?_);walk_at "rd";refine rr _ _ (Yv fun R rr=>?_);refine YcW (K:=g.K) (a:=P) (xs:=as.map V.ref) (RV (Cs.mk Z0 Z2 Z4 Z1 Z3) w t H p D ps sz r) (fun R r'=>by walk_at "rd";exact ⟨_,_,_,sD _ _ hp,Zh,Zl,_,Yeq _ _ _,r'⟩) ⟨none,none,none,sz,r,[],[],t,rfl,rfl,Yd,uD,Nat.le_refl _,vq.r0,hr1,(Tr.refl vq.W _ _).put hD uD _,.nil,fun es h=>h⟩ (fun i σ H' _ ⟨_,_,_,_,_,_,_,_,_,_,_,_,_,_,_,T1,_,_⟩=>ao.of (T1.fr _ _ h2.1 h5)) ?_ ?_
  ·rintro i x σ H' X hx ⟨o6,o7,o8,left,Y0,vs,ds,t',rfl,hvl,hd',cX,hlf,hr0,jK,T1,hv,hva⟩ hX
   rw [List.getElem?_map] at hx
   obtain ⟨a,ha,rfl⟩:=Option.map_eq_some_iff.mp hx;have hi:=(List.getElem?_eq_some_iff.mp ha).1;have hsh:ps[i]?=some (ps[i]'(by omega)):=List.getElem?_eq_getElem _;generalize ps[i]'(by omega)=sh at hsh;have hga:=h6.2 i a sh ha hsh;have hdp:dep sh<=YU ps:=WB (List.mem_of_getElem? hsh);have hws:=zY (List.mem_of_getElem? hsh);have Aw:=We jJ (List.mem_of_getElem? hsh);have jH:=Q0 hsh;rw [jH,<- Q1] at jK
   have Ks:=fun (s:Nat) (hs:s<=sz)=>Vj prs vq.ob sh s (by omega) Aw (by omega)
   have nn:∀ x∈bY w.bk sh (ps.drop (i+1)) left,0<=x.1/\0<=x.2:=fun x hx=>by
    obtain ⟨j,hj⟩:=List.getElem?_of_mem hx;obtain ⟨j1,rfl⟩:=Wx hj;rw [vq.bk];exact ⟨(Ks j (by omega)).1,(hbd _ _ (by omega)).1⟩
   obtain ⟨x1,e1,e2,e3⟩:=Aq _ Y0 hr0 jK nn;obtain ⟨x2,f1,f2,f3⟩:=Ke _ Y0 hr0 jK nn;generalize hfn:aN (bY w.bk sh (ps.drop (i+1)) left) Y0=fd at e1 e2 e3 f1 f2 f3;obtain ⟨e4,rfl⟩:=Wx e1;obtain ⟨_,rfl⟩:=Wx f1;have sX:=Yj.aj hX (.tup [.int (i:Int),.ref a]);have T2:=T1.same sX;have Ax:∀ p' sh',w.reg p'=some sh'->fZ t' p':=fun p' sh' hr'=>(T2.gr p' sh' hr').un (vq.rd p' sh' hr')
   obtain ⟨pQ,c2,uW,f9,_,_,_,hp2,_,_,hsub2⟩:=T2.wi.at_ p _ vq.rg;have hp3:=T2.fr _ _ hU.1 hp;have up:=(T2.gr p _ vq.rg).up;have hms:∀ j,left<t'.ms p j:=fun j=>by
    have hu:=Ax p _ vq.rg;obtain ⟨P',T',dt',L',as',ws',_,_,_,_,_,_,_,_,_,g10,g11,_⟩:=hsub2;have hw0:ws'[0]?=some (ws'[0]'(by omega)):=List.getElem?_eq_getElem _;have:=(g11 0 _ hw0).2.1;rw [hu j];omega
   refine ⟨X,_,rfl,au.of Yd,rfl,_,_,rfl,_,_,rfl,rfl,Yv fun R rr=>?_⟩;walk_at "rd";refine ⟨_,_,_,hp3,Zh,Zk,_,Ji _ _ _,T,rfl,_,_,T2.fr _ _ h3.1 h8,Yfq _ _,w,t',p,T,ps,i,left,sh,rfl,T2.wi,vq.rg,⟨dx,c,P,hp3⟩,hsh,by omega,by omega,fun j _=>hms j,by unfold fu;rw [hM];omega,fun p' sh' hr' _=>Ax p' sh' hr',fun B t3 H3 T3 gB hUB hB hpc=>?_⟩;refine ⟨B,bY w.bk sh (ps.drop (i+1)) left,Y0,rfl,hB,by rw [bY,List.length_map,List.length_range];omega,fun x hx=>?_,nn,hr0,jK,fun f dxf H4 s4 gf hf=>rr _ _ (Yv fun R rr=>?_)⟩
   ·obtain ⟨j,hj⟩:=List.getElem?_of_mem hx
    obtain ⟨j1,rfl⟩:=Wx hj;rw [vq.bk];have c1:=Ks j (by omega);have c2:=hbd (i+1) (left - j) (by omega);have:=Ud ps (i+1);exact Kl c1.1 c1.2 c2.1 c2.2 (by omega) (by omega)
   ·rw [hfn] at hf
    have T4:=T3.same s4;have T14:=T2.trans (T4.mono (by omega));have Ay:=T4.fr _ _ dD (sX _ _ hd');have O1:=T4.ours cX (sX _ _ hd');have hlt:=hpc a ⟨dx,c,P,T,as,hp3,T2.fr _ _ h2.1 h5,ha⟩;have VA:VQ (Cs.mk Z0 Z2 Z4 Z1 Z3) w t3 H4 prs a sh fd.1 fd.2.1:=⟨T4.wi,hga,vq.ob,vq.bk,Aw,by omega,vq.M,by omega,by omega,e2,e3,fun p' sh' hr'=>(T4.gr p' sh' hr').un (Ax p' sh' hr')⟩;walk_at "rd";refine ⟨.inl ⟨rfl,_,ao.of Ay⟩,?_⟩;refine (VU (l:=m) VA (by omega) fun v d t5 H5 T5 hv5 O2=>?_).map fun sp h=>⟨_,_,_,hf,ZM,ZF,_,Kq _ _ _,_,_,_,hf,ZM,ZI,_,Ydf _ _ _,h⟩
    have iQ:=T5.fr _ _ dD Ay;have Az:=T5.ours O1 Ay;refine ⟨_,iQ,few (by omega),rr _ _ (Yv fun R rr=>?_)⟩;have uf:¬ t3.U f:=T3.wi.new gf |>.2
    have Ku:=T5.fr _ _ (T3.wi.new gf).1 hf;have nfD:f≠D:=Xh Ku iQ (by simp);have Kv:=(Yg (H:=H5) (o := .lst (vs++[v])) nfD).trans Ku;walk_at "rd";refine ⟨_,_,_,Kv,ZM,ZF,_,Kq _ _ _,_,rfl,rr _ _ ?_⟩;walk_at "rd";refine ⟨_,_,_,Kv,ZM,ZR,_,Yfp _ _ _,?_⟩;have kp:∀ a us,¬ t5.U a->H5 a=some (.tup us)->¬ t5.U a/\upd H5 D (.lst (vs++[v])) a=some (.tup us):=fun a us n e=>⟨n,by rw [Yg (Xh e iQ (by simp))];exact e⟩
    refine ⟨_,_,_,left - fd.1,fd.2.2,vs++[v],ds++[d],t5,by rw [show (left:Int) - (fd.1:Nat)=((left - fd.1:Nat):Int) by omega],by rw [List.length_append,hvl];rfl,Yd,Az,by omega,f2,f3,(T14.trans T5).put hD Az _,?_,fun es he=>?_⟩
    ·exact (((((hv.same sX).tr T2.wi T4).tr T4.wi T5)).append (.cons hv5 .nil)).mono kp
    ·rw [List.append_assoc]
     refine hva _ ?_;rw [jH];refine .cons ?_ ?_<;>(show _;rw [<- bY,hfn])
     ·exact O2
     ·exact he
  ·rintro σ H' ⟨o6,o7,o8,left,Y0,vs,ds,t',rfl,hvl,hd',cX,hlf,hr0,jK,T1,hv,hva⟩
   refine rr _ _ ?_;walk_at "rd";refine ⟨_,.inl ⟨ao.of hd',fun X gX=>?_⟩⟩;have sX:=Yj.aj gX (.tup vs);refine q _ (.tuple ds) t' _ (T1.same sX) (.tup (T1.wi.new gX).2 Yd (hv.same sX)) (.row ?_);rw [List.length_map] at hva
   have:=hva [] (by rw [hal,List.drop_length];exact .nil _ _)
   rwa [List.append_nil] at this
 | _=>simp [kind] at hk
section
variable {src:List (Option Nat)} {te:TE} {σ:St} {H:Hp} {Q:VK}
theorem Ydg {ta:TA} {n:Nat} (Z:Hp->Prop) (ha:∀ R:List V->Hp->Prop,(∀ H1,Z H1->R [.int n] H1)->ta σ H R) (hlen:n<=100000)
  (hz:∀ H1,Z H1->∃ I:Addr->Nat->List V->Hp->Prop,(∀ D,H1 D=none->I D 0 [] (upd H1 D (.lst [])))/\(∀ D i zs H',I D i zs H'->zs.length=i/\H' D=some (.lst zs)) /\
   (∀ D i zs H',H1 D=none->i<n->I D i zs H'->∀ R:VK,(∀ y aK,aK D=some (.lst zs)->I D (i+1) (zs++[y]) (upd aK D (.lst (zs++[y])))->R y aK)->te (some (.int i)::YI src σ) H' R) /\
   ∀ D zs H',H1 D=none->I D n zs H'->Q (.ref D) H'):d7 (none::src) (wA ta) (YG 0) Wa te σ H Q:=by
 refine ha _ fun H1 hZ=>⟨n,rfl,by omega,by omega,fun D hD=>?_⟩
 obtain ⟨I,i0,dl,step,fin⟩:=hz H1 hZ;have h6:100000<sizeLine:=by decide
 refine Vy (U6 (lo:=0) (n:=n) (P:=fun _=>True)) (fun i zs σ' H'=>(∃ o,σ'=o::YI src σ)/\i<=n/\I D i zs H') ⟨⟨none,rfl⟩,Nat.zero_le _,i0 D hD⟩ (fun i zs σ' H' q=>⟨trivial,(dl _ _ _ _ q.2.2).2⟩) (X3 0) ?_ ?_
 ·rintro i zs σ' H' x hx ⟨⟨o,rfl⟩,_,hI⟩
  have hi:i<n:=by have:=(List.getElem?_eq_some_iff.mp hx).1;simpa using this
  rw [List.getElem?_map,List.getElem?_range hi] at hx
  have e:V.int (0+(i:Int))=x:=Option.some.inj hx;rw [Int.zero_add] at e
  subst e;have hl:=(dl _ _ _ _ hI).1
  show te (some (.int i)::YI src σ) H' _
  exact step D i zs H' hD hi hI _ fun y aK hd hI'=>⟨hd,by omega,⟨_,rfl⟩,hi,hI'⟩
 ·rintro zs σ' H' ⟨_,_,hI⟩
  exact fin D zs H' hD (by simpa using hI)
end
structure AQ (C:Cs) (w:Wo) (t:Sw) (H:Hp) (prs:aL) (p:Addr) (sh:Sh) (s:Nat):Prop where
 W:WI C w t H
 rg:w.reg p=some sh
 ob:cg prs
 bk:w.bk=aD prs
 ok:aH prs sh
 wt:wt sh<=24
 M:w.M=2
 bN:s<=7
 rd:∀ p sh,w.reg p=some sh->fZ t p
 dp:dep sh<=2
theorem AQ.c0 {C:Cs} {w:Wo} {t:Sw} {H:Hp} {prs:aL} {p:Addr} {sh:Sh} {s:Nat} (h:AQ C w t H prs p sh s):0<=cnt w.bk sh s:=by
 rw [h.bk];have:=h.bN;have:=h.wt;exact (Vj prs h.ob sh s (by omega) h.ok (by omega)).1
theorem AQ.call {C:Cs} {w:Wo} {t:Sw} {H:Hp} {prs:aL} {p:Addr} {sh:Sh} {s:Nat} {Q:VK} (h:AQ C w t H prs p sh s) (q:∀ t' H',Tr C w t H t' H' 8 0->s<t'.ns p->Q (.int (cnt w.bk sh s)) H'):gH (sV C 130) H p "count_at" fun sp=>sp [.ref p,.int s] H Q E0:=by
 have h1:=h.bN;have h2:=h.dp;exact WE h.W h.rg (by omega) (by unfold fu;rw [h.M];omega) (fun p' sh' hr' _=>h.rd p' sh' hr') fun t' H' T n=>q t' H' (T.mono (by omega)) n
theorem AQ.on {C:Cs} {w:Wo} {t t':Sw} {H H':Hp} {prs:aL} {p:Addr} {sh:Sh} {s a b:Nat} (h:AQ C w t H prs p sh s) (T:Tr C w t H t' H' a b):AQ C w t' H' prs p sh s:=⟨T.wi,h.rg,h.ob,h.bk,h.ok,h.wt,h.M,h.bN,fun p' sh' hr'=>(T.gr p' sh' hr').un (h.rd p' sh' hr'),h.dp⟩
theorem AQ.vq {C:Cs} {w:Wo} {t:Sw} {H:Hp} {prs:aL} {p:Addr} {sh:Sh} {s:Nat} {r:Int} (h:AQ C w t H prs p sh s) (n:s<t.ns p) (h0:0<=r) (h1:r<cnt w.bk sh s):VQ C w t H prs p sh s r:=⟨h.W,h.rg,h.ob,h.bk,h.ok,h.wt,h.M,n,h.bN,h0,h1,h.rd⟩
structure tD (bk:List Nat->Sh) (sh:Sh) (s:Nat) (ds:List PyData):Prop where
 len:(ds.length:Int)=cnt bk sh s
 va:∀ (r:Nat) d,ds[r]?=some d->Va bk sh s r d
inductive Kw (C:Cs) (vs:List V) (H:Hp) (Q:VK) (E_:XK):Prop
 | mk (w:Wo) (t:Sw) (prs:aL) (p:Addr) (sh:Sh) (s:Nat) (h0:vs=[.ref p,.int (s:Nat)]) (h1:AQ C w t H prs p sh s) (h2:cnt w.bk sh s<=2000) (h3:∀ D us ds t' H',H D=none->H' D=some (.lst us)->Tr C w t H t' H' 8 0->bD t'.U H' us ds->tD w.bk sh s ds->Q (.ref D) H')
inductive MV (C:Cs) (w:Wo) (t:Sw) (H:Hp) (p:Addr) (sh:Sh) (s:Nat) (D:Addr) (i:Nat) (zs:List V) (H':Hp):Prop
 | mk (ds:List PyData) (t':Sw) (l:zs.length=i) (l':ds.length=i) (hd:H' D=some (.lst zs)) (hU:¬ t'.U D) (hD:H D=none) (hn:s<t'.ns p) (T:Tr C w t H t' H' 8 0) (v:bD t'.U H' zs ds) (a:∀ (r:Nat) d,ds[r]?=some d->Va w.bk sh s r d)
theorem YbF {k:Nat} {Z6 Z5 Z1 Z2 Z4 Z3 Z0:Addr} (R:g.Raw "all_made" "all_made" yK ["maker","size"]) (ZE:g.Me k Z0 "value_at" ["self","size","number"] (aM (Cs.mk Z0 Z2 Z4 Z1 Z3) 0 36)) (ZJ:g.Me k Z2 "value_at" ["self","size","number"] (aM (Cs.mk Z0 Z2 Z4 Z1 Z3) 2 36)) (ZH:g.Me k Z1 "value_at" ["self","size","number"] (aM (Cs.mk Z0 Z2 Z4 Z1 Z3) 3 36)) (ZK:g.Me k Z3 "value_at" ["self","size","number"] (aM (Cs.mk Z0 Z2 Z4 Z1 Z3) 5 36)) (Zt:g.Me k Z0 "count_at" ["self","size"] (Zo (Cs.mk Z0 Z2 Z4 Z1 Z3) 0 130)) (Zw:g.Me k Z2 "count_at" ["self","size"] (Zo (Cs.mk Z0 Z2 Z4 Z1 Z3) 2 130)) (Zu:g.Me k Z1 "count_at" ["self","size"] (Zo (Cs.mk Z0 Z2 Z4 Z1 Z3) 3 130)) (Zx:g.Me k Z3 "count_at" ["self","size"] (Zo (Cs.mk Z0 Z2 Z4 Z1 Z3) 5 130)) (ZY:g.mg "range"=none) (Za:Cls g.K Z1) (Z9:Yc g.K Z1 "counts") (Zg:Yc g.K Z1 "marks") (Ze:Yc g.K Z1 "parts") (Zh:Cls g.K Z2) (Zb:Yc g.K Z2 "counts") (Zl:Yc g.K Z2 "parts") (Zk:Yc g.K Z2 "table") (Zj:Cls g.K Z3) (Zc:Yc g.K Z3 "counts") (Zi:Yc g.K Z3 "named") (Z8:Cls g.K Z0) (Z7:Yc g.K Z0 "counts") (Zf:Yc g.K Z0 "low") (Zd:Yc g.K Z0 "span"):g.Fn (k+1) "all_made" ["maker","size"] (Kw (Cs.mk Z0 Z2 Z4 Z1 Z3)):=by
 refine R.fn YbA (fun vs H Q E h=>by obtain ⟨w,t,prs,p,sh,s,rfl,aq,hc,q⟩:=h;rfl) fun f_ cdv A outer s H vs Q E hr h=>?_
 obtain ⟨w,t,prs,p,sh,s,rfl,aq,hc,q⟩:=h;refine ⟨_,(@Yf _ _ _ (@Ym _ _ _ _ (@X2 _ _ _ _ _ _ _ ([none,some 1,some 0]) ((["number","size","maker"]:List Str)) _ (YG 0) _ _ (.own (.cap (i:=1) rfl rfl (by first | exact .inl rfl | exact .inr rfl) (.cap (i:=0) rfl rfl (by first | exact .inl rfl | exact .inr rfl) .nil))) rfl (@Vs _ _ _ _ _ _ rfl ZY (@Ya _ _ _ _ _ (@XH _ _ _ _ _ _ _ _ _ _ _ _ _ _ _ (Yp Zt Z8 (Yp Zw Zh (Yp Zu Za (Yp Zx Zj Xp)))) hr (pv 0) (@Ya _ _ _ _ _ (pv 1) Yb (by rfl)) (by omega) (by rfl) (by rfl) (by rfl) (by rfl)) Yb (by rfl)) (by rfl)) (fun cl C s₀ H₀ fp pn=>(@YK _ _ (0) _ (show List.Nodup (["number","size","maker"]:List Str) by decide +kernel) rfl (.inl rfl) (.inr rfl))) (fun cl C s₀ H₀ fp pn=>Xc) (fun cl C s₀ H₀ fp pn=>(@XH _ _ _ _ _ _ _ _ _ _ _ _ _ _ _ (Yp ZE Z8 (Yp ZJ Zh (Yp ZH Za (Yp ZK Zj Xp)))) hr (pv 2) (@Ya _ _ _ _ _ (pv 1) (@Ya _ _ _ _ _ (pv 0) Yb (by rfl)) (by rfl)) (by omega) (by rfl) (by rfl) (by rfl) (by rfl))) (by intro x hx;simp at hx;first | (subst hx;exact .inl rfl) | (rcases hx with rfl | rfl<;>exact .inl rfl) | (rcases hx with rfl | rfl | rfl<;>exact .inl rfl) | (rcases hx with rfl | rfl | rfl | rfl<;>exact .inl rfl) | (rcases hx with rfl | rfl | rfl | rfl | rfl<;>exact .inl rfl)) (by rfl) (by decide) (by decide +kernel) (by intro _;rfl)))),?_⟩;have c0:=aq.c0;have bN:=aq.bN;have dp:=aq.dp;refine Ydg (n:=(cnt w.bk sh s).toNat) (fun H1=>∃ t1,Tr (Cs.mk Z0 Z2 Z4 Z1 Z3) w t H t1 H1 8 0/\s<t1.ns p) (fun R r=>?_) (by omega) ?_
 ·walk_at "rd"
  refine aq.call fun t1 H1 T1 n1=>?_
  have:=r H1 ⟨t1,T1,n1⟩;rw [Int.toNat_of_nonneg c0] at this
  exact this
 ·rintro H1 ⟨t1,T1,n1⟩
  refine ⟨MV (Cs.mk Z0 Z2 Z4 Z1 Z3) w t H p sh s,fun D hD=>?_,fun D i zs H' ⟨_,_,l,_,hd,_,_,_,_,_,_⟩=>⟨l,hd⟩,?_,?_⟩
  ·have n:=T1.wi.new hD
   refine ⟨[],t1,rfl,rfl,Yd,n.2,?_,n1,T1.put ?_ n.2 _,.nil,fun r d h=>by cases h⟩ <;>
   ·cases e:H D with
    | none=>rfl
    | some o=>exact absurd hD (T1.alloc e)
  ·rintro D i zs H' hD1 hi ⟨ds,t',hl,hl',hd,hU,hD,hn,T,v,a⟩ R r
   have aq':=aq.on T;have dD:w.D D=none:=(aq.W.new hD).1;walk_at "rd";refine VU (l:=36) (aq'.vq hn (by omega) (by omega)) (by omega) fun u d t2 H2 T2 hv hva=>?_
   have hd2:=T2.fr _ _ dD hd;have f9:=T2.ours hU hd;refine r u H2 hd2 ⟨ds++[d],t2,by rw [List.length_append,hl];rfl,by rw [List.length_append,hl'];rfl,Yd,f9,hD,Nat.lt_of_lt_of_le hn (T2.gr p _ aq.rg).up,(T.trans T2).put hD f9 _,((v.tr T.wi T2).append (.cons hv .nil)).mono fun b us n e=>⟨n,by rw [Yg (Xh e hd2 (by simp))];exact e⟩,fun j d' hj=>?_⟩;by_cases c:j<ds.length
   ·rw [List.getElem?_append_left c] at hj
    exact a j d' hj
   ·have e:j=ds.length:=by
     have:=(List.getElem?_eq_some_iff.mp hj).1;rw [List.length_append,List.length_singleton] at this
     omega
    subst e;rw [List.getElem?_append_right (Nat.le_refl _),Nat.sub_self] at hj
    cases Option.some.inj hj
    rw [hl'];exact hva
  ·rintro D zs H' hD1 ⟨ds,t',hl,hl',hd,hU,hD,hn,T,v,a⟩
   exact q D zs ds t' H' hD hd T v ⟨by rw [hl'];omega,a⟩
abbrev Vt (H:Hp):V->PyData->Prop:=VO (fun _=>False) H
abbrev Ba (H:Hp):List V->List PyData->Prop:=bD (fun _=>False) H
theorem VO.pl {U:Addr->Prop} {H:Hp} {v:V} {d:PyData} (h:VO U H v d):Vt H v d:=h.mono fun _ _ _ e=>⟨fun z=>z,e⟩
theorem bD.pl {U:Addr->Prop} {H:Hp} {v:List V} {d:List PyData} (h:bD U H v d):Ba H v d:=h.mono fun _ _ _ e=>⟨fun z=>z,e⟩
theorem Ky {K:PySem.W.Frag} {C:Cs} {prs:aL} {H H1:Hp} {p:Addr} {sh:Sh} {s:Nat} (h:MW C prs 2 H H1 p sh) (ob:cg prs) (ok:aH prs sh) (hw:wt sh<=24) (hd:dep sh<=2) (hs:s<=7):∃ w U,AQ C w (t0 U) H1 prs p sh s/\∀ t' H',Tr C w (t0 U) H1 t' H' 8 0->Yj H H':=by
 obtain ⟨w,U,W,hg,eE,hM,s1,hU⟩:=h;refine ⟨w,U,⟨W,hg,ob,eE,ok,hw,hM,hs,fun p' sh' _ i=>rfl,hd⟩,fun t' H' T b o e=>T.fr b o ?_ (s1 _ _ e)⟩
 cases z:w.D b with
 | none=>rfl
 | some x =>
  have:=hU b (W.ow b x z);rw [e] at this
  cases this
inductive qe (vs:List V) (H:Hp) (Q:VK) (E_:XK):Prop
 | mk (i j:Int) (h0:vs=[.int i,.int j]) (h1:i<=j) (h2:Q .non H)
theorem Z4n {Z6 Z5 Z1 Z2 Z4 Z3 Z0:Addr} (R:g.Raw "refuse_too_many" "refuse_too_many" yJ ["count","most"]):g.Fn (1) "refuse_too_many" ["count","most"] (qe):=by
 refine R.fn Z4f (fun vs H Q E h=>by obtain ⟨i,j,rfl,hij,q⟩:=h;rfl) fun f_ cdv A outer s H vs Q E hr h=>?_
 obtain ⟨i,j,rfl,hij,q⟩:=h;refine ⟨_,(@Yf _ _ _ (@Yy _ _ _ _ _ _ _ _ (@Yl _ _ _ _ _ _ _ _ Ea (pv 0) (pv 1) (Yn _)) (@Yf _ _ _ Y4) Yq)),?_⟩;walk_at "rd";rw [if_neg (by omega)];exact q
inductive Kz (K:W.Frag) (C:Cs) (vs:List V) (H:Hp) (Q:VK) (E_:XK):Prop
 | mk (prs:aL) (B a:Addr) (sh:Sh) (n:Nat) (most:Int) (h0:vs=[.ref B,.ref a,.int n,.int most]) (h1:Xy K H B prs) (h2:DK K H a (kd sh)) (h3:aH prs sh) (h4:cg prs) (h5:wt sh<=24) (h6:dep sh<=2) (h7:n<=7) (h8:cnt (aD prs) sh n<=most) (h9:cnt (aD prs) sh n<=2000) (h10:∀ D us ds H',Yj H H'->H D=none->H' D=some (.lst us)->Ba H' us ds->tD (aD prs) sh n ds->Q (.ref D) H')
theorem Yat {k:Nat} {Z6 Z5 Z1 Z2 Z4 Z3 Z0:Addr} (R:g.jw "all_values" "all_values" yL ["book","shape","size","most"] [.int 400]) (jG:g.Fn k "maker_for" ["book","shape"] (qb g.K (Cs.mk Z0 Z2 Z4 Z1 Z3))) (Z4F:g.Fn k "refuse_too_many" ["count","most"] (qe)) (oF:g.Fn k "all_made" ["maker","size"] (Kw (Cs.mk Z0 Z2 Z4 Z1 Z3))) (Zt:g.Me k Z0 "count_at" ["self","size"] (Zo (Cs.mk Z0 Z2 Z4 Z1 Z3) 0 130)) (Zw:g.Me k Z2 "count_at" ["self","size"] (Zo (Cs.mk Z0 Z2 Z4 Z1 Z3) 2 130)) (Zu:g.Me k Z1 "count_at" ["self","size"] (Zo (Cs.mk Z0 Z2 Z4 Z1 Z3) 3 130)) (Zx:g.Me k Z3 "count_at" ["self","size"] (Zo (Cs.mk Z0 Z2 Z4 Z1 Z3) 5 130)) (Za:Cls g.K Z1) (Z9:Yc g.K Z1 "counts") (Zg:Yc g.K Z1 "marks") (Ze:Yc g.K Z1 "parts") (Zh:Cls g.K Z2) (Zb:Yc g.K Z2 "counts") (Zl:Yc g.K Z2 "parts") (Zk:Yc g.K Z2 "table") (Zj:Cls g.K Z3) (Zc:Yc g.K Z3 "counts") (Zi:Yc g.K Z3 "named") (Z8:Cls g.K Z0) (Z7:Yc g.K Z0 "counts") (Zf:Yc g.K Z0 "low") (Zd:Yc g.K Z0 "span"):g.jx (k+1) "all_values" ["book","shape","size","most"] [.int 400] (Kz g.K (Cs.mk Z0 Z2 Z4 Z1 Z3)):=by
 refine R.fnD Ik (fun vs H Q E h=>by obtain ⟨prs,B,a,sh,n,most,rfl,hB,hk,hok,ob,bI,hdp,hn,hm,hc,q⟩:=h;rfl) fun f_ cdv A outer s H vs Q E hr h=>?_
 obtain ⟨prs,B,a,sh,n,most,rfl,hB,hk,hok,ob,bI,hdp,hn,hm,hc,q⟩:=h;refine ⟨_,(@Ye _ _ _ _ _ (@Yz _ _ (4) _ _ _ _ Ik.nd rfl (.inl rfl) (@YA _ _ _ _ _ _ _ _ _ _ _ _ jG hr (@Ya _ _ _ _ _ (pv 0) (@Ya _ _ _ _ _ (pv 1) Yb (by rfl)) (by rfl)) (by omega) (by rfl) (by rfl) (by decide) (by rfl) (by rfl)) (by rfl) (by first | exact .inl rfl | exact .inr rfl | assumption)) (@Ye _ _ _ _ _ (@Xb _ _ _ _ (@YA _ _ _ _ _ _ _ _ _ _ _ _ Z4F hr (@Ya _ _ _ _ _ (@XH _ _ _ _ _ _ _ _ _ _ _ _ _ _ _ (Yp Zt Z8 (Yp Zw Zh (Yp Zu Za (Yp Zx Zj Xp)))) hr (pv 4) (@Ya _ _ _ _ _ (pv 2) Yb (by rfl)) (by omega) (by rfl) (by rfl) (by rfl) (by rfl)) (@Ya _ _ _ _ _ (pv 3) Yb (by rfl)) (by rfl)) (by omega) (by rfl) (by rfl) (by decide) (by rfl) (by rfl)) (by rfl)) (@Yf _ _ _ (@Ym _ _ _ _ (@YA _ _ _ _ _ _ _ _ _ _ _ _ oF hr (@Ya _ _ _ _ _ (pv 4) (@Ya _ _ _ _ _ (pv 2) Yb (by rfl)) (by rfl)) (by omega) (by rfl) (by rfl) (by decide) (by rfl) (by rfl)))))),?_⟩;refine Yv fun R rr=>?_
 walk_at "rd";refine ⟨prs,B,a,sh,rfl,hB,hk,hok,ob,bI,hdp,fun p H1 mw=>rr _ _ (Yv fun R rr=>?_)⟩;have s1:Yj H H1:=by obtain ⟨_,_,_,_,_,_,s1,_⟩:=mw;exact s1
 obtain ⟨w,U,aq,same⟩:=Ky (K:=g.K) mw ob hok bI hdp hn;have eE:=aq.bk;walk_at "rd";refine aq.call fun t1 H2 T1 n1=>?_
 rw [eE];refine ⟨_,_,rfl,hm,rr _ _ ?_⟩;walk_at "rd";refine ⟨w,t1,prs,p,sh,n,rfl,aq.on T1,by rw [eE];exact hc,fun D us ds t' H' gD hd T2 hv al=>?_⟩;have T:=T1.trans T2;refine q D us ds H' (same t' H' T) ?_ hd hv.pl (by rw [<- eE];exact al)
 cases e:H D with
 | none=>rfl
 | some o=>exact absurd gD (T1.alloc (s1 _ _ e))
inductive mX (K:W.Frag) (C:Cs) (vs:List V) (H:Hp) (Q:VK) (E_:XK):Prop
 | mk (prs:aL) (B a:Addr) (sh:Sh) (n:Nat) (r:Int) (h0:vs=[.ref B,.ref a,.int n,.int r]) (h1:Xy K H B prs) (h2:DK K H a (kd sh)) (h3:aH prs sh) (h4:cg prs) (h5:wt sh<=24) (h6:dep sh<=2) (h7:n<=7) (h8:0<=r) (h9:r<cnt (aD prs) sh n) (h10:∀ v d H',Yj H H'->Vt H' v d->Va (aD prs) sh n r d->Q v H')
theorem YbG {k:Nat} {Z6 Z5 Z1 Z2 Z4 Z3 Z0:Addr} (R:g.Raw "value_at" "value_at" yM ["book","shape","size","number"]) (jG:g.Fn k "maker_for" ["book","shape"] (qb g.K (Cs.mk Z0 Z2 Z4 Z1 Z3))) (ZE:g.Me k Z0 "value_at" ["self","size","number"] (aM (Cs.mk Z0 Z2 Z4 Z1 Z3) 0 36)) (ZJ:g.Me k Z2 "value_at" ["self","size","number"] (aM (Cs.mk Z0 Z2 Z4 Z1 Z3) 2 36)) (ZH:g.Me k Z1 "value_at" ["self","size","number"] (aM (Cs.mk Z0 Z2 Z4 Z1 Z3) 3 36)) (ZK:g.Me k Z3 "value_at" ["self","size","number"] (aM (Cs.mk Z0 Z2 Z4 Z1 Z3) 5 36)) (Zt:g.Me k Z0 "count_at" ["self","size"] (Zo (Cs.mk Z0 Z2 Z4 Z1 Z3) 0 130)) (Zw:g.Me k Z2 "count_at" ["self","size"] (Zo (Cs.mk Z0 Z2 Z4 Z1 Z3) 2 130)) (Zu:g.Me k Z1 "count_at" ["self","size"] (Zo (Cs.mk Z0 Z2 Z4 Z1 Z3) 3 130)) (Zx:g.Me k Z3 "count_at" ["self","size"] (Zo (Cs.mk Z0 Z2 Z4 Z1 Z3) 5 130)) (Za:Cls g.K Z1) (Z9:Yc g.K Z1 "counts") (Zg:Yc g.K Z1 "marks") (Ze:Yc g.K Z1 "parts") (Zh:Cls g.K Z2) (Zb:Yc g.K Z2 "counts") (Zl:Yc g.K Z2 "parts") (Zk:Yc g.K Z2 "table") (Zj:Cls g.K Z3) (Zc:Yc g.K Z3 "counts") (Zi:Yc g.K Z3 "named") (Z8:Cls g.K Z0) (Z7:Yc g.K Z0 "counts") (Zf:Yc g.K Z0 "low") (Zd:Yc g.K Z0 "span"):g.Fn (k+1) "value_at" ["book","shape","size","number"] (mX g.K (Cs.mk Z0 Z2 Z4 Z1 Z3)):=by
 refine R.fn yN (fun vs H Q E h=>by obtain ⟨prs,B,a,sh,n,r,rfl,hB,hk,hok,ob,bI,hdp,hn,h0,h1,q⟩:=h;rfl) fun f_ cdv A outer s H vs Q E hr h=>?_
 obtain ⟨prs,B,a,sh,n,r,rfl,hB,hk,hok,ob,bI,hdp,hn,h0,h1,q⟩:=h;refine ⟨_,(@Ye _ _ _ _ _ (@Yz _ _ (4) _ _ _ _ yN.nd rfl (.inl rfl) (@YA _ _ _ _ _ _ _ _ _ _ _ _ jG hr (@Ya _ _ _ _ _ (pv 0) (@Ya _ _ _ _ _ (pv 1) Yb (by rfl)) (by rfl)) (by omega) (by rfl) (by rfl) (by decide) (by rfl) (by rfl)) (by rfl) (by first | exact .inl rfl | exact .inr rfl | assumption)) (@Ye _ _ _ _ _ (@Yz _ _ (5) _ _ _ _ yN.nd rfl (.inl rfl) (@XH _ _ _ _ _ _ _ _ _ _ _ _ _ _ _ (Yp Zt Z8 (Yp Zw Zh (Yp Zu Za (Yp Zx Zj Xp)))) hr (pv 4) (@Ya _ _ _ _ _ (pv 2) Yb (by rfl)) (by omega) (by rfl) (by rfl) (by rfl) (by rfl)) (by rfl) (by first | exact .inl rfl | exact .inr rfl | assumption)) (@Ye _ _ _ _ _ (@Yy _ _ _ _ _ _ _ _ (@WL _ _ _ _ (@Ri _ _ _ _ _ _ _ _ _ _ _ _ WH DY Yh (pv 3) (pv 5) (by with_unfolding_all rfl))) (@Yf _ _ _ Y4) Yq) (@Yf _ _ _ (@Ym _ _ _ _ (@XH _ _ _ _ _ _ _ _ _ _ _ _ _ _ _ (Yp ZE Z8 (Yp ZJ Zh (Yp ZH Za (Yp ZK Zj Xp)))) hr (pv 4) (@Ya _ _ _ _ _ (pv 2) (@Ya _ _ _ _ _ (pv 3) Yb (by rfl)) (by rfl)) (by omega) (by rfl) (by rfl) (by rfl) (by rfl))))))),?_⟩;refine Yv fun R rr=>?_
 walk_at "rd";refine ⟨prs,B,a,sh,rfl,hB,hk,hok,ob,bI,hdp,fun p H1 mw=>rr _ _ (Yv fun R rr=>?_)⟩;obtain ⟨w,U,aq,same⟩:=Ky (K:=g.K) mw ob hok bI hdp hn;have eE:=aq.bk;walk_at "rd";refine aq.call fun t1 H2 T1 n1=>rr _ _ (Yv fun R rr=>?_)
 rw [eE];walk_at "rd";rw [if_pos h0,if_neg (fun z=>z h1)];refine rr _ _ ?_;walk_at "rd";rw [<- eE] at h1
 exact VU (l:=36) ((aq.on T1).vq n1 h0 h1) (by omega) fun v d t2 H3 T2 hv hva=>q v d H3 (same t2 H3 (T1.trans T2)) hv.pl (by rw [<- eE];exact hva)
theorem YW {x y:Str} {i:Nat} {t Y0:TS} {D:Ends} {σ:St} {H:Hp} (hσ:σ[i]?=some (some (.str x))) (h:¬ x=y) (hr:Y0 D σ H):Qa (pD (UI (iD pG (XN i) (tC (.str y)))) t Qj) Y0 D σ H:=by
 refine tL hσ ?_
 show if decide (x=y)=true then _ else _
 rw [if_neg (by simpa using h)];exact hr
theorem take {x y:Str} {i:Nat} {t Y0:TS} {D:Ends} {σ:St} {H:Hp} (hσ:σ[i]?=some (some (.str x))) (h:x=y) (ht:t { D with nx:=Y0 D } σ H):Qa (pD (UI (iD pG (XN i) (tC (.str y)))) t Qj) Y0 D σ H:=by
 refine tL hσ ?_
 show if decide (x=y)=true then _ else _
 rw [if_pos (by simpa using h)];exact ht
def Bb (K:W.Frag) (H:Hp) (as:List Addr) (ms:List (List Nat)) (bs:List Addr):Prop:=as.length=ms.length/\bs.length=ms.length/\∀ (j:Nat) a m b,as[j]?=some a->ms[j]?=some m->bs[j]?=some b->au K H a [.str (S m),.ref b]
def bR (ms:List (List Nat)) (x:Str):Option Nat:=ms.findIdx? fun m=>decide (S m=x)
theorem Bc {ms:List (List Nat)} {x:Str} {i:Nat} (h:bR ms x=some i):i<ms.length:=by
 rw [bR,List.findIdx?_eq_some_iff_getElem] at h
 exact h.1
inductive qg (K:W.Frag) (vs:List V) (H:Hp) (Q:VK) (E_:XK):Prop
 | mk (i:Int) (h0:vs=[.int i]) (h1:Q (.bl true) H)
theorem Z4o {Z6 Z5 Z1 Z2 Z4 Z3 Z0:Addr} (R:g.Raw "is_whole_number" "is_whole_number" xZ ["thing"]) (aY:g.mg "bool"=none) (bC:g.mg "int"=none) (Zq:g.mg "isinstance"=none):g.Fn (1) "is_whole_number" ["thing"] (qg g.K):=by
 refine R.fn Z49 (fun vs H Q E h=>by obtain ⟨i,rfl,q⟩:=h;rfl) fun f_ cdv A outer s H vs Q E hr h=>?_
 obtain ⟨i,rfl,q⟩:=h;refine ⟨_,(@Yf _ _ _ (@Ym _ _ _ _ (@WM _ _ _ _ _ _ _ (@YS _ _ _ _ _ _ _ _ _ _ Zq Y7 (@Ya _ _ _ _ _ (pv 0) (@Ya _ _ _ _ _ (@Wt _ _ _ _ ("int") bC (by decide +kernel) (by rfl) (by rfl) (by decide) (by decide)) Yb (by rfl)) (by rfl)) (by decide +kernel) (by rfl) (by rfl) (by decide) (by decide) (by rfl) (by rfl)) (@Vd _ _ _ _ _ (@Fi _ _ _ _ (@YS _ _ _ _ _ _ _ _ _ _ Zq Y7 (@Ya _ _ _ _ _ (pv 0) (@Ya _ _ _ _ _ (@Wt _ _ _ _ ("bool") aY (by decide +kernel) (by rfl) (by rfl) (by decide) (by decide)) Yb (by rfl)) (by rfl)) (by decide +kernel) (by rfl) (by rfl) (by decide) (by decide) (by rfl) (by rfl))))))),?_⟩;walk_at "rd";exact ⟨_,rfl,_,.int i,true,rfl,Qb ⟨_,rfl,_,.int i,false,rfl,q⟩⟩
def plv:Option Nat->V
 | some i => .int (i:Nat)
 | none => .non
inductive u6 (K:W.Frag) (vs:List V) (H:Hp) (Q:VK) (E_:XK):Prop
 | mk (b:Addr) (as:List Addr) (ms:List (List Nat)) (us:List Addr) (x:Str) (h0:vs=[.ref b,.str x]) (h1:au K H b (as.map V.ref)) (h2:Bb K H as ms us) (h3:∀ H',Yj H H'->Q (plv (bR ms x)) H')
theorem Z5b {Z6 Z5 Z1 Z2 Z4 Z3 Z0:Addr} (R:g.Raw "branch_place" "branch_place" yc ["branches","mark"]) (g8:g.mg "enumerate"=none):g.Fn (1) "branch_place" ["branches","mark"] (u6 g.K):=by
 refine R.fn yd (fun vs H Q E h=>by obtain ⟨b,as,ms,us,x,rfl,hb,hbr,q⟩:=h;rfl) fun f_ cdv A outer s H vs Q E hr h=>?_
 obtain ⟨b,as,ms,us,x,rfl,hb,hbr,q⟩:=h;refine ⟨_,(@Ye _ _ _ _ _ (@WN _ _ _ _ _ _ _ _ PassesOwn.never rfl (@Ye5 _ _ _ _ _ _ _ _ rfl g8 (@Ya _ _ _ _ _ (pv 0) Yb (by rfl)) (by rfl)) (@VI _ _ _ _ _ (2) rfl (@Xk _ _ _ _ _ (@YK _ _ (2) _ yd.nd rfl (.inl rfl) (by first | exact .inl rfl | exact .inr rfl | assumption)) (@Xk _ _ _ _ _ (@YK _ _ (3) _ yd.nd rfl (.inl rfl) (by first | exact .inl rfl | exact .inr rfl | assumption)) W6 (by rfl)) (by rfl)) (by rfl) (by rfl)) (@Yf _ _ _ (@Yy _ _ _ _ _ _ _ _ (@Yl _ _ _ _ _ _ _ _ YC (@Yo _ _ _ _ _ _ _ Ys (pv 3) Yh (fun _ _=>rfl)) (pv 1) (Yn _)) (@Yf _ _ _ (@Ym _ _ _ _ (pv 2))) Yq)) (by intro _;rfl)) (@Yf _ _ _ (@Ym _ _ _ _ X5))),?_⟩;refine Yv fun R rr=>?_
 refine YcV (K:=g.K) (xs:=as.map V.ref) (fun i σ H'=>∃ o2 o3,σ=[some (.ref b),some (.str x),o2,o3]/\Yj H H'/\∀ j m,j<i->ms[j]?=some m->S m≠x) (fun R r=>by walk_at "rd";exact r) ⟨_,_,rfl,.refl H,fun j m h=>by omega⟩ (fun i σ H' hi ⟨o2,o3,_,sm,_⟩=>sm.tup hb) ?_ ?_
 ·rintro i v σ H' T hv ⟨o2,o3,rfl,sm,hno⟩ hT
  obtain ⟨b1,b2,b3⟩:=hbr;have hi:i<as.length:=by simpa using (List.getElem?_eq_some_iff.mp hv).1
  have ha:as[i]?=some as[i]:=List.getElem?_eq_getElem hi;rw [List.getElem?_map,ha] at hv
  cases Option.some.inj hv
  have hm:ms[i]?=some (ms[i]'(by omega)):=List.getElem?_eq_getElem _;have hu:us[i]?=some (us[i]'(by omega)):=List.getElem?_eq_getElem _;have ht:=b3 i _ _ _ ha hm hu;have s2:=sm.trans (.aj hT (.tup [.int (i:Int),.ref as[i]]));generalize hme:ms[i]'(by omega)=m at hm ht;refine ⟨T,_,rfl,au.of Yd,rfl,_,_,rfl,_,_,rfl,rfl,?_⟩;walk_at "rd";refine ⟨_,s2.tup ht,_,Yr (j:=0) rfl,rfl,?_⟩;by_cases c:S m=x
  ·have hp:bR ms x=some i:=by
    rw [bR,List.findIdx?_eq_some_iff_getElem];refine ⟨by omega,decide_eq_true (by rw [hme];exact c),fun j hj=>?_⟩;have:=hno j (ms[j]'(by omega)) hj (List.getElem?_eq_getElem _);simpa using this
   rw [if_pos (congrArg V.str c)];have q:=q _ s2;rw [hp] at q
   exact q
  ·rw [if_neg (fun e=>c (V.str.inj e))]
   refine ⟨s2,fun j m' hj hm'=>?_⟩;rcases Nat.lt_or_ge j i with h | h
   ·exact hno j m' h hm'
   ·have:j=i:=by omega
    subst this;rw [hm] at hm'
    cases Option.some.inj hm'
    exact c
 ·rintro σ H' ⟨o2,o3,rfl,sm,hno⟩
  refine rr _ _ ?_;walk_at "rd";have:bR ms x=none:=by
   rw [bR,List.findIdx?_eq_none_iff];intro m hm;obtain ⟨j,hj⟩:=List.mem_iff_getElem?.mp hm;have hjl:=(List.getElem?_eq_some_iff.mp hj).1;exact decide_eq_false (hno j m (by rw [List.length_map,hbr.1];exact hjl) hj)
  have q:=q H' sm;rw [this] at q
  exact q
inductive KC (K:W.Frag) (vs:List V) (H:Hp) (Q:VK) (E_:XK):Prop
 | mk (b:Addr) (as:List Addr) (ms:List (List Nat)) (us:List Addr) (a:Addr) (x:Str) (u:V) (h0:vs=[.ref b,.ref a]) (h1:au K H b (as.map V.ref)) (h2:Bb K H as ms us) (h3:H a=some (.tup [.str x,u])) (h4:∀ H',Yj H H'->Q (.bl (bR ms x).isSome) H')
theorem YbH {k:Nat} {Z6 Z5 Z1 Z2 Z4 Z3 Z0:Addr} (R:g.Raw "has_mark" "has_mark" yg ["branches","value"]) (qj:g.Fn k "branch_place" ["branches","mark"] (u6 g.K)) (Zq:g.mg "isinstance"=none) (aF:g.mg "len"=none) (bF:g.mg "str"=none) (Zv:g.mg "tuple"=none):g.Fn (k+1) "has_mark" ["branches","value"] (KC g.K):=by
 refine R.fn Ybz (fun vs H Q E h=>by obtain ⟨b,as,ms,us,a,x,u,rfl,hb,hbr,ha,q⟩:=h;rfl) fun f_ cdv A outer s H vs Q E hr h=>?_
 obtain ⟨b,as,ms,us,a,x,u,rfl,hb,hbr,ha,q⟩:=h;refine ⟨_,(@Ye _ _ _ _ _ (@Yy _ _ _ _ _ _ _ _ (@Vq _ _ _ _ _ _ _ (@WL _ _ _ _ (@Vb _ _ _ (@YS _ _ _ _ _ _ _ _ _ _ Zq Y7 (@Ya _ _ _ _ _ (pv 1) (@Ya _ _ _ _ _ (@Wt _ _ _ _ ("tuple") Zv (by decide +kernel) (by rfl) (by rfl) (by decide) (by decide)) Yb (by rfl)) (by rfl)) (by decide +kernel) (by rfl) (by rfl) (by decide) (by decide) (by rfl) (by rfl)) (by intro _;rfl))) (@Vc _ _ _ _ (@Yl _ _ _ _ _ _ _ _ V7 (@YS _ _ _ _ _ _ _ _ _ _ aF YH (@Ya _ _ _ _ _ (pv 1) Yb (by rfl)) (by decide +kernel) (by rfl) (by rfl) (by decide) (by decide) (by rfl) (by rfl)) Yh (Yn _)))).pt (@Yf _ _ _ (@Ym _ _ _ _ Wk)) Yq) (@Yf _ _ _ (@Ym _ _ _ _ (@WM _ _ _ _ _ _ _ (@YS _ _ _ _ _ _ _ _ _ _ Zq Y7 (@Ya _ _ _ _ _ (@Yo _ _ _ _ _ _ _ Ys (pv 1) Yh (fun _ _=>rfl)) (@Ya _ _ _ _ _ (@Wt _ _ _ _ ("str") bF (by decide +kernel) (by rfl) (by rfl) (by decide) (by decide)) Yb (by rfl)) (by rfl)) (by decide +kernel) (by rfl) (by rfl) (by decide) (by decide) (by rfl) (by rfl)) (@Vd _ _ _ _ _ (@X1 _ _ _ _ _ _ _ _ FT (@YA _ _ _ _ _ _ _ _ _ _ _ _ qj hr (@Ya _ _ _ _ _ (pv 0) (@Ya _ _ _ _ _ (@Yo _ _ _ _ _ _ _ Ys (pv 1) Yh (fun _ _=>rfl)) Yb (by rfl)) (by rfl)) (by omega) (by rfl) (by rfl) (by decide) (by rfl) (by rfl)) X5 (Yn _))))))),?_⟩;refine Yv fun R rr=>?_
 walk_at "rd";refine ⟨_,rfl,_,.tup ha,true,rfl,?_⟩;walk_at "rd";refine ⟨_,.inr (au.of ha),?_⟩;rw [if_neg (by simp)];refine rr _ _ ?_;walk_at "rd";refine ⟨_,au.of ha,_,Yr (j:=0) rfl,_,rfl,_,.str _,true,rfl,Qb ?_⟩;refine ⟨_,au.of ha,_,Yr (j:=0) rfl,b,as,ms,us,x,rfl,hb,hbr,fun H' s'=>?_⟩;have:=q H' s'
 cases e:bR ms x with
 | none=>rw [e] at this;exact this
 | some i=>rw [e] at this;exact this
def mY:Sh->PyData->Prop
 | .w _ _,.int _=>True
 | .row _,.tuple _=>True
 | .pick _ _,.tuple [.str _,_]=>True
 | .use _,_=>True
 | _,_=>False
def frm:Sh->PyData->Bool
 | .w lo span,.int i=>decide (lo<=i)&&decide (i<=lo+span)
 | .row ps,.tuple ds=>decide (ds.length=ps.length)
 | .pick mk _,.tuple [.str m,_]=>(bR mk m).isSome
 | .use _,_=>true
 | _,_=>false
theorem Uy {K:W.Frag} {H:Hp} {a:Addr} {lo:Int} {span:Nat} (h:Den K H (.ref a) (kd (.w lo span))):au K H a [.str "whole",.int lo,.int (lo+span)]:=by
 rw [kd] at h
 obtain ⟨b,vs,e,h1,h2⟩:=Xe h
 cases V.ref.inj e
 obtain ⟨u1,r1,rfl,h5,h6⟩:=YY h2;obtain ⟨u2,r2,rfl,h7,h8⟩:=YY h6;obtain ⟨u3,r3,rfl,h9,h10⟩:=YY h8
 cases XU h10
 cases WF h5
 cases US h7
 cases US h9
 exact h1
theorem Q2 {K:W.Frag} {H:Hp} {a:Addr} {ps:List Sh} (h:Den K H (.ref a) (kd (.row ps))):∃ (b:Addr) (bs:List Addr),au K H a [.str "row",.ref b]/\au K H b (bs.map V.ref)/\bs.length=ps.length/\∀ (i:Nat) b q,bs[i]?=some b->ps[i]?=some q->Den K H (.ref b) (kd q):=by
 rw [kd] at h
 obtain ⟨v,hT,hv⟩:=VG h;obtain ⟨b,vs,rfl,hb,hvs⟩:=Xe hv;obtain ⟨bs,rfl,hl,hbs⟩:=Qf hvs;exact ⟨b,bs,hT,hb,hl,hbs⟩
theorem Qg {K:W.Frag} {H:Hp} {a:Addr} {mk:List (List Nat)} {ps:List Sh} (hl:mk.length=ps.length) (h:Den K H (.ref a) (kd (.pick mk ps))):∃ (b:Addr) (ts bs:List Addr),au K H a [.str "pick",.ref b]/\au K H b (ts.map V.ref)/\Bb K H ts mk bs/\∀ (i:Nat) b q,bs[i]?=some b->ps[i]?=some q->Den K H (.ref b) (kd q):=by
 rw [kd] at h
 obtain ⟨v,hT,hv⟩:=VG h;obtain ⟨b,vs,rfl,hb,hvs⟩:=Xe hv;obtain ⟨ts,bs,rfl,hl1,hl2,hts,hbs⟩:=Uf hl hvs;exact ⟨b,ts,bs,hT,hb,⟨by omega,by omega,hts⟩,hbs⟩
theorem Q3 {K:W.Frag} {H:Hp} {a:Addr} {x:List Nat} (h:Den K H (.ref a) (kd (.use x))):au K H a [.str "use",.str (S x)]:=by
 rw [kd] at h
 obtain ⟨v,hT,hv⟩:=VG h
 cases WF hv
 exact hT
theorem bD.length {U:Addr->Prop} {H:Hp}:∀ {vs:List V} {ds:List PyData},bD U H vs ds->vs.length=ds.length
 | _,_,.nil=>rfl
 | _,_,.cons _ h=>congrArg (·+1) h.length
theorem VV {H:Hp} {v:V} {ds:List PyData} (h:Vt H v (.tuple ds)):∃ a vs,v = .ref a/\H a=some (.tup vs)/\Ba H vs ds:=by
 cases h with
 | tup _ h1 h2=>exact ⟨_,_,rfl,h1,h2⟩
theorem Bd {H:Hp} {v:V} {i:Int} (h:Vt H v (.int i)):v = .int i:=by cases h;rfl
theorem X7 {H:Hp} {v:V} {x:Str} {d:PyData} (h:Vt H v (.tuple [.str x,d])):∃ a u,v = .ref a/\H a=some (.tup [.str x,u])/\Vt H u d:=by
 obtain ⟨a,vs,rfl,ha,hs⟩:=VV h
 cases hs with
 | cons h1 h2 =>
  cases h2 with
  | cons h3 h4 =>
   cases h4
   cases h1
   exact ⟨a,_,rfl,ha,h3⟩
theorem UT {mk:List (List Nat)} {ps:List Sh}:∀ {d:PyData},mY (.pick mk ps) d->∃ x e,d = .tuple [.str x,e]
 | .tuple [.str x,e],_=>⟨x,e,rfl⟩
inductive KD (K:W.Frag) (vs:List V) (H:Hp) (Q:VK) (E_:XK):Prop
 | mk (prs:aL) (a:Addr) (sh:Sh) (v:V) (d:PyData) (h0:vs=[.ref a,v]) (h1:Den K H (.ref a) (kd sh)) (h2:aH prs sh) (h3:Vt H v d) (h4:mY sh d) (h5:∀ H',Yj H H'->Q (.bl (frm sh d)) H')
theorem YbI {k:Nat} {Z6 Z5 Z1 Z2 Z4 Z3 Z0:Addr} (R:g.Raw "has_form" "has_form" yh ["shape","value"]) (Z4G:g.Fn k "is_whole_number" ["thing"] (qg g.K)) (oG:g.Fn k "has_mark" ["branches","value"] (KC g.K)) (Zq:g.mg "isinstance"=none) (aF:g.mg "len"=none) (Zv:g.mg "tuple"=none) (iR:g.cj "OF_ONE_PART" ([.str "many",.str "rising",.str "unlike"])):g.Fn (k+1) "has_form" ["shape","value"] (KD g.K):=by
 refine R.fn Ie (fun vs H Q E h=>by obtain ⟨prs,a,sh,v,d,rfl,hk,hok,hv,hw,q⟩:=h;rfl) fun f_ cdv A outer s H vs Q E hr h=>?_
 obtain ⟨prs,a,sh,v,d,rfl,hk,hok,hv,hw,q⟩:=h;refine ⟨_,(@Ye _ _ _ _ _ (@Yz _ _ (2) _ _ _ _ Ie.nd rfl (.inl rfl) (@Yo _ _ _ _ _ _ _ Ys (pv 0) Yh (fun _ _=>rfl)) (by rfl) (by first | exact .inl rfl | exact .inr rfl | assumption)) (@Ye _ _ _ _ _ (@Yy _ _ _ _ _ _ _ _ (@Yl _ _ _ _ _ _ _ _ YC (pv 2) Yk (Yn _)) (@Yf _ _ _ (@Ym _ _ _ _ (@WM _ _ _ _ _ _ _ (@YA _ _ _ _ _ _ _ _ _ _ _ _ Z4G hr (@Ya _ _ _ _ _ (pv 1) Yb (by rfl)) (by omega) (by rfl) (by rfl) (by decide) (by rfl) (by rfl)) (@Vd _ _ _ _ _ (@FW _ _ _ _ _ _ _ _ _ _ _ _ WH WH (@Yo _ _ _ _ _ _ _ Ys (pv 0) Yh (fun _ _=>rfl)) (pv 1) (@Yo _ _ _ _ _ _ _ Ys (pv 0) Yh (fun _ _=>rfl)) (by with_unfolding_all rfl)))))) Yq) (@Ye _ _ _ _ _ (@Yy _ _ _ _ _ _ _ _ (@Yl _ _ _ _ _ _ _ _ YC (pv 2) Yk (Yn _)) (@Yf _ _ _ Y4) Yq) (@Ye _ _ _ _ _ (@Yy _ _ _ _ _ _ _ _ (@Yl _ _ _ _ _ _ _ _ YC (pv 2) Yk (Yn _)) (@Yf _ _ _ (@Ym _ _ _ _ (@WM _ _ _ _ _ _ _ (@YS _ _ _ _ _ _ _ _ _ _ Zq Y7 (@Ya _ _ _ _ _ (pv 1) (@Ya _ _ _ _ _ (@Wt _ _ _ _ ("tuple") Zv (by decide +kernel) (by rfl) (by rfl) (by decide) (by decide)) Yb (by rfl)) (by rfl)) (by decide +kernel) (by rfl) (by rfl) (by decide) (by decide) (by rfl) (by rfl)) (@Vd _ _ _ _ _ (@X1 _ _ _ _ _ _ _ _ YC (@YS _ _ _ _ _ _ _ _ _ _ aF YH (@Ya _ _ _ _ _ (pv 1) Yb (by rfl)) (by decide +kernel) (by rfl) (by rfl) (by decide) (by decide) (by rfl) (by rfl)) (@YS _ _ _ _ _ _ _ _ _ _ aF YH (@Ya _ _ _ _ _ (@Yo _ _ _ _ _ _ _ Ys (pv 0) Yh (fun _ _=>rfl)) Yb (by rfl)) (by decide +kernel) (by rfl) (by rfl) (by decide) (by decide) (by rfl) (by rfl)) (Yn _)))))) Yq) (@Ye _ _ _ _ _ (@Yy _ _ _ _ _ _ _ _ (@Yl _ _ _ _ _ _ _ _ YC (pv 2) Yk (Yn _)) (@Yf _ _ _ (@Ym _ _ _ _ (@YA _ _ _ _ _ _ _ _ _ _ _ _ oG hr (@Ya _ _ _ _ _ (@Yo _ _ _ _ _ _ _ Ys (pv 0) Yh (fun _ _=>rfl)) (@Ya _ _ _ _ _ (pv 1) Yb (by rfl)) (by rfl)) (by omega) (by rfl) (by rfl) (by decide) (by rfl) (by rfl)))) Yq) (@Ye _ _ _ _ _ (@Yy _ _ _ _ _ _ _ _ (@Yl _ _ _ _ _ _ _ _ YC (pv 2) Yk (Yn _)) (@Yf _ _ _ Y4) Yq) (@Ye _ _ _ _ _ (@Yy _ _ _ _ _ _ _ _ (@Yl _ _ _ _ _ _ _ _ Xt (pv 2) (@W2 _ _ _ _ _ iR (by rfl) (by rfl) (by decide)) rfl) (@Yf _ _ _ Y4) Yq) (@Yf _ _ _ (@Ym _ _ _ _ Wk))))))))),?_⟩;refine Yv fun R rr=>?_
 walk_at "rd"
 cases sh with
 | w lo span =>
  have hT:=Uy hk
  cases d with
  | int i =>
   cases Bd hv
   refine ⟨_,hT,_,Yr (j:=0) rfl,rr _ _ (take rfl rfl ?_)⟩;walk_at "rd";refine ⟨i,rfl,_,rfl,Qb ⟨_,hT,_,Yr (j:=1) rfl,_,rfl,?_⟩⟩;have q:=q H (.refl H);refine Y6 (fun c=>?_) (fun c=>?_)
   ·refine ⟨_,hT,_,Yr (j:=2) rfl,_,rfl,?_⟩
    simp only [frm,decide_eq_true c,Bool.true_and] at q;exact q
   ·simp only [frm,decide_eq_false c,Bool.false_and] at q
    exact q
  | _=>exact hw.elim
 | row ps =>
  obtain ⟨b,bs,hT,hb,Af,_⟩:=Q2 hk
  cases d with
  | tuple ds =>
   obtain ⟨c,vs,rfl,hc,hvs⟩:=VV hv;have hl:=hvs.length;refine ⟨_,hT,_,Yr (j:=0) rfl,rr _ _ (YW rfl (by decide +kernel) (YW rfl (by decide +kernel) (take rfl rfl ?_)))⟩;walk_at "rd";refine ⟨_,rfl,_,.tup hc,true,rfl,Qb ⟨_,.inr (au.of hc),_,hT,_,Yr (j:=1) rfl,b,rfl,_,.inr hb,?_⟩⟩;rw [show decide ((vs.length:Int)=((bs.map V.ref).length:Int))=frm (.row ps) (.tuple ds) from decide_eq_decide.mpr (by rw [List.length_map];omega)];exact q H (.refl H)
  | _=>exact hw.elim
 | pick mk ps =>
  rw [aH] at hok
  obtain ⟨b,ts,bs,hT,hb,hbr,_⟩:=Qg hok.1 hk;obtain ⟨x,e,rfl⟩:=UT hw;obtain ⟨c,u,rfl,hc,hu⟩:=X7 hv;refine ⟨_,hT,_,Yr (j:=0) rfl,rr _ _ (YW rfl (by decide +kernel) (YW rfl (by decide +kernel) (YW rfl (by decide +kernel) (take rfl rfl ?_))))⟩;walk_at "rd";exact ⟨_,hT,_,Yr (j:=1) rfl,b,ts,mk,bs,c,x,u,rfl,hb,hbr,hc,q⟩
 | use x =>
  have hT:=Q3 hk;refine ⟨_,hT,_,Yr (j:=0) rfl,rr _ _ (YW rfl (by decide +kernel) (YW rfl (by decide +kernel) (YW rfl (by decide +kernel) (YW rfl (by decide +kernel) (YW rfl (by decide +kernel) (Yv fun R rr=>?_))))))⟩;walk_at "rd";intro c hc;refine ⟨_,.inr hc,rfl,rfl,XG (by decide +kernel) (rr _ _ ?_)⟩;walk_at "rd";exact q H (.refl H)
def cM (bk:List Nat->Sh):Sh->PyData->List (Sh×PyData)
 | .row ps,.tuple ds=>ps.zip ds
 | .pick mk ps,.tuple [.str m,e]=>((bR mk m).bind fun i=>ps[i]?).toList.map fun p=>(p,e)
 | .use x,d=>[(bk x,d)]
 | _,_=>[]
structure mZ (K:W.Frag) (H:Hp) (t:Addr) (w:Sh×PyData):Prop where
 ex:∃ b u,au K H t [.ref b,u]/\Den K H (.ref b) (kd w.1)/\Vt H u w.2
inductive iT (K:W.Frag) (vs:List V) (H:Hp) (Q:VK) (E_:XK):Prop
 | mk (prs:aL) (B a:Addr) (sh:Sh) (v:V) (d:PyData) (h0:vs=[.ref B,.ref a,v]) (h1:Xy K H B prs) (h2:Den K H (.ref a) (kd sh)) (h3:aH prs sh) (h4:Vt H v d) (h5:mY sh d) (h6:frm sh d=true) (h7:∀ L (ts:List Addr) H',Yj H H'->H L=none->H' L=some (.lst (ts.map V.ref))->ts.length=(cM (aD prs) sh d).length->ts.length<=100->(∀ (i:Nat) t w,ts[i]?=some t->(cM (aD prs) sh d)[i]?=some w->mZ K H' t w)->Q (.ref L) H')
theorem bD.at {U:Addr->Prop} {H:Hp}:∀ {vs:List V} {ds:List PyData} {i:Nat} {v:V} {d:PyData},bD U H vs ds->vs[i]?=some v->ds[i]?=some d->VO U H v d
 | _,_,0,_,_,.cons a _,h,h'=>by cases Option.some.inj h;cases Option.some.inj h';exact a
 | _,_,i+1,_,_,.cons _ b,h,h'=>b.at (i:=i) (by simpa using h) (by simpa using h')
theorem Z4Y {k:Nat} {Z6 Z5 Z1 Z2 Z4 Z3 Z0:Addr} (R:g.Raw "things_within" "things_within" yj ["book","shape","value"]) (Aj:g.Fn k "shape_of" ["book","name"] (Ac g.K)) (qj:g.Fn k "branch_place" ["branches","mark"] (u6 g.K)) (aR:g.mg "list"=none) (ig:g.mg "zip"=none) (iR:g.cj "OF_ONE_PART" ([.str "many",.str "rising",.str "unlike"])):g.Fn (k+1) "things_within" ["book","shape","value"] (iT g.K):=by
 refine R.fn Ig (fun vs H Q E h=>by obtain ⟨prs,B,a,sh,v,d,rfl,hB,hk,hok,hv,hw,hf,q⟩:=h;rfl) fun f_ cdv A outer s H vs Q E hr h=>?_
 obtain ⟨prs,B,a,sh,v,d,rfl,hB,hk,hok,hv,hw,hf,q⟩:=h;refine ⟨_,(@Ye _ _ _ _ _ (@Yz _ _ (3) _ _ _ _ Ig.nd rfl (.inl rfl) (@Yo _ _ _ _ _ _ _ Ys (pv 1) Yh (fun _ _=>rfl)) (by rfl) (by first | exact .inl rfl | exact .inr rfl | assumption)) (@Ye _ _ _ _ _ (@Yy _ _ _ _ _ _ _ _ (@Yl _ _ _ _ _ _ _ _ YC (pv 3) Yk (Yn _)) (@Yf _ _ _ (@Ym _ _ _ _ (@Ybx _ _ _ _ _ _ _ _ rfl aR rfl ig (@Ya _ _ _ _ _ (@Yo _ _ _ _ _ _ _ Ys (pv 1) Yh (fun _ _=>rfl)) (@Ya _ _ _ _ _ (pv 2) Yb (by rfl)) (by rfl)) (by rfl) (by rfl) (by rfl)))) Yq) (@Ye _ _ _ _ _ (@Yy _ _ _ _ _ _ _ _ (@Yl _ _ _ _ _ _ _ _ YC (pv 3) Yk (Yn _)) (@Yf _ _ _ (@Ym _ _ _ _ (@Y5 _ _ _ _ (@Ya _ _ _ _ _ (@Yu _ _ _ _ _ (@Ya _ _ _ _ _ (@Yo _ _ _ _ _ _ _ Ys (@Yo _ _ _ _ _ _ _ Ys (@Yo _ _ _ _ _ _ _ Ys (pv 1) Yh (fun _ _=>rfl)) (@YA _ _ _ _ _ _ _ _ _ _ _ _ qj hr (@Ya _ _ _ _ _ (@Yo _ _ _ _ _ _ _ Ys (pv 1) Yh (fun _ _=>rfl)) (@Ya _ _ _ _ _ (@Yo _ _ _ _ _ _ _ Ys (pv 2) Yh (fun _ _=>rfl)) Yb (by rfl)) (by rfl)) (by omega) (by rfl) (by rfl) (by decide) (by rfl) (by rfl)) (fun _ _=>rfl)) Yh (fun _ _=>rfl)) (@Ya _ _ _ _ _ (@Yo _ _ _ _ _ _ _ Ys (pv 2) Yh (fun _ _=>rfl)) Yb (by rfl)) (by rfl))) Yb (Yw _ _ _ _ _))))) Yq) (@Ye _ _ _ _ _ (@Yy _ _ _ _ _ _ _ _ (@Yl _ _ _ _ _ _ _ _ YC (pv 3) Yk (Yn _)) (@Yf _ _ _ (@Ym _ _ _ _ (@Y5 _ _ _ _ (@Ya _ _ _ _ _ (@Yu _ _ _ _ _ (@Ya _ _ _ _ _ (@YA _ _ _ _ _ _ _ _ _ _ _ _ Aj hr (@Ya _ _ _ _ _ (pv 0) (@Ya _ _ _ _ _ (@Yo _ _ _ _ _ _ _ Ys (pv 1) Yh (fun _ _=>rfl)) Yb (by rfl)) (by rfl)) (by omega) (by rfl) (by rfl) (by decide) (by rfl) (by rfl)) (@Ya _ _ _ _ _ (pv 2) Yb (by rfl)) (by rfl))) Yb (Yw _ _ _ _ _))))) Yq) (@Ye _ _ _ _ _ (@Yy _ _ _ _ _ _ _ _ (@Vq _ _ _ _ _ _ _ (@Yl _ _ _ _ _ _ _ _ YC (pv 3) Yk (Yn _)) (@Vc _ _ _ _ (@Yl _ _ _ _ _ _ _ _ Xt (pv 3) (@W2 _ _ _ _ _ iR (by rfl) (by rfl) (by decide)) rfl))).pt (@Yf _ _ _ Y4) Yq) (@Yf _ _ _ (@Ym _ _ _ _ (@Y5 _ _ _ _ Yb)))))))),?_⟩;refine Yv fun R rr=>?_
 walk_at "rd"
 cases sh with
 | w lo span =>
  have hT:=Uy hk;refine ⟨_,hT,_,Yr (j:=0) rfl,rr _ _ (YW rfl (by decide +kernel) (YW rfl (by decide +kernel) (YW rfl (by decide +kernel) (Yv fun R rr=>?_))))⟩;walk_at "rd";refine XG (by decide +kernel) fun c hc=>⟨_,.inr hc,rfl,rfl,XG (by decide +kernel) (rr _ _ ?_)⟩
  walk_at "rd";refine ⟨few (by decide),fun L gL=>q L [] _ (.aj gL _) gL Yd ?_ (Nat.zero_le _) fun i t w h=>by cases h⟩
  cases d<;>rfl
 | row ps =>
  rw [aH] at hok
  obtain ⟨b,bs,hT,hb,Af,hbs⟩:=Q2 hk
  cases d with
  | tuple ds =>
   obtain ⟨c,vs,rfl,hc,hvs⟩:=VV hv;have hl:=hvs.length;have hlen:ds.length=ps.length:=of_decide_eq_true hf;refine ⟨_,hT,_,Yr (j:=0) rfl,rr _ _ (take rfl rfl ?_)⟩;walk_at "rd";refine ⟨_,hT,_,Yr (j:=1) rfl,b,rfl,_,hb,_,au.of hc,by rw [List.length_map];omega,fun L ts H2 gL s2 hL hlt hts=>q L ts H2 s2 gL hL ?_ ?_ fun i t w h1 h2=>?_⟩
   ·rw [hlt,List.length_map]
    show _=(ps.zip ds).length
    rw [List.length_zip];omega
   ·rw [hlt,List.length_map]
    omega
   ·have h2:(ps.zip ds)[i]?=some w:=h2
    rw [List.getElem?_zip_eq_some] at h2
    have hi:=(List.getElem?_eq_some_iff.mp h2.1).1;have h3:bs[i]?=some (bs[i]'(by omega)):=List.getElem?_eq_getElem _;have h4:vs[i]?=some (vs[i]'(by omega)):=List.getElem?_eq_getElem _;obtain ⟨_,g2⟩:=hts i t _ _ h1 (by rw [List.getElem?_map,h3];rfl) h4;exact ⟨_,_,au.of g2,(hbs i _ _ h3 h2.1).keep s2,(hvs.at h4 h2.2).same s2⟩
  | _=>exact hw.elim
 | pick mk ps =>
  rw [aH] at hok
  obtain ⟨b,ts,bs,hT,hb,hbr,hbs⟩:=Qg hok.1 hk;obtain ⟨x,e,rfl⟩:=UT hw;obtain ⟨c,u,rfl,hc,hu⟩:=X7 hv;obtain ⟨i,hi⟩:=Option.isSome_iff_exists.mp (show (bR mk x).isSome=true from hf);have him:=Bc hi;have hml:=hok.1;obtain ⟨b1,b2,b3⟩:=hbr;have e1:ts[i]?=some (ts[i]'(by omega)):=List.getElem?_eq_getElem _;have e2:mk[i]?=some (mk[i]'(by omega)):=List.getElem?_eq_getElem _;have e3:bs[i]?=some (bs[i]'(by omega)):=List.getElem?_eq_getElem _;have e4:ps[i]?=some (ps[i]'(by omega)):=List.getElem?_eq_getElem _;have hti:=b3 i _ _ _ e1 e2 e3;have hdi:=hbs i _ _ e3 e4;refine ⟨_,hT,_,Yr (j:=0) rfl,rr _ _ (YW rfl (by decide +kernel) (take rfl rfl ?_))⟩;walk_at "rd";refine ⟨_,hT,_,Yr (j:=1) rfl,_,hT,_,Yr (j:=1) rfl,_,au.of hc,_,Yr (j:=0) rfl,b,ts,mk,bs,x,rfl,hb,⟨b1,b2,b3⟩,fun H2 s2=>?_⟩;rw [hi];refine ⟨b,rfl,i,rfl,_,s2.tup hb,_,Yr (by rw [List.getElem?_map,e1];rfl),_,rfl,_,s2.tup hti,_,Yr (j:=1) rfl,_,au.of (s2 _ _ hc),_,Yr (j:=1) rfl,few (by decide),fun X gX=>⟨few (by decide),fun L gL=>?_⟩⟩;have sX:=Yj.aj gX (.tup [.ref (bs[i]'(by omega)),u]);have sL:=Yj.aj gL (.lst [.ref X]);have ew:cM (aD prs) (.pick mk ps) (.tuple [.str x,e])=[(ps[i]'(by omega),e)]:=by
   show (((bR mk x).bind fun i=>ps[i]?).toList.map fun p=>(p,e))=_
   rw [hi,Option.bind_some,e4];rfl
  rw [ew] at q
  refine q L [X] _ ((s2.trans sX).trans sL) ((s2.trans sX).free gL) Yd rfl (by simp) fun j t w h1 h2=>?_
  cases j with
  | zero =>
   cases Option.some.inj h1
   cases Option.some.inj h2
   exact ⟨_,_,au.of (sL _ _ Yd),hdi.keep ((s2.trans sX).trans sL),hu.same ((s2.trans sX).trans sL)⟩
  | succ j=>cases h1
 | use x =>
  have hT:=Q3 hk;rw [aH] at hok
  obtain ⟨q0,iK⟩:=hok;obtain ⟨eb,hm0⟩:=Wg iK;refine ⟨_,hT,_,Yr (j:=0) rfl,rr _ _ (YW rfl (by decide +kernel) (YW rfl (by decide +kernel) (take rfl rfl ?_)))⟩;walk_at "rd";refine ⟨_,hT,_,Yr (j:=1) rfl,prs,B,x,q0,rfl,hB,iK,fun b hb=>⟨few (by decide),fun X gX=>⟨few (by decide),fun L gL=>?_⟩⟩⟩;have sX:=Yj.aj gX (.tup [.ref b,v]);have sL:=Yj.aj gL (.lst [.ref X]);have ew:cM (aD prs) (.use x) d=[(q0.2,d)]:=by rw [<- eb];cases d<;>rfl
  rw [ew] at q
  refine q L [X] _ (sX.trans sL) (sX.free gL) Yd rfl (by simp) fun j t w h1 h2=>?_
  cases j with
  | zero =>
   cases Option.some.inj h1
   cases Option.some.inj h2
   exact ⟨_,_,au.of (sL _ _ Yd),hb.den.keep (sX.trans sL),hv.same (sX.trans sL)⟩
  | succ j=>cases h1
inductive iU (H:Hp):V->Nat->Prop
 | mk {a:Addr} {n:Nat} {r:List V} (h:H a=some (.tup (.int (n:Nat)::r))):iU H (.ref a) n
theorem iU.keep {H H':Hp} (s:∀ a us,H a=some (.tup us)->H' a=some (.tup us)) {k:V} {n:Nat} (h:iU H k n):iU H' k n:=by
 cases h with
 | mk h=>exact .mk (s _ _ h)
structure ql (H:Hp) (ks:List V) (ns:List Nat):Prop where
 len:ks.length=ns.length
 few:ks.length<=100
 at_:∀ (i:Nat) k n,ks[i]?=some k->ns[i]?=some n->iU H k n
theorem ql.head {H:Hp} {ks:List V} {ns:List Nat} (h:ql H ks ns) (hn:ns≠[]):∃ a r,∃ ks':List V,ks = .ref a::ks'/\H a=some (.tup (.int (ns.headD 0:Nat)::r)):=by
 obtain ⟨h1,h2,h3⟩:=h
 cases ns with
 | nil=>exact absurd rfl hn
 | cons n ns' =>
  cases ks with
  | nil=>cases h1
  | cons k ks' =>
   have:=h3 0 k n rfl rfl
   cases this with
   | mk h=>exact ⟨_,_,_,rfl,h⟩
def gq:Sh->PyData->List Nat->Nat
 | .w lo _,.int i,_=>Builtin.Int.intBits (i - lo)
 | .row _,_,ns=>ns.sum
 | .pick _ _,_,ns=>ns.headD 0
 | .use _,_,ns=>1+ns.headD 0
 | _,_,_=>0
theorem WU (x:V) (r:List V):dY (x::r) 0=some x:=Yr (j:=0) rfl
theorem Yfr (ns:List Nat):(ns.map fun (n:Nat)=>(n:Int)).sum=((ns.sum:Nat):Int):=by
 induction ns with
 | nil=>rfl
 | cons n ns ih=>rw [List.map_cons,List.sum_cons,ih,List.sum_cons];omega
inductive KH (K:W.Frag) (vs:List V) (H:Hp) (Q:VK) (E_:XK):Prop
 | mk (b:Addr) (ks:List V) (ns:List Nat) (h0:vs=[.ref b]) (h1:H b=some (.lst ks)) (h2:ql H ks ns) (h3:∀ H',Yj H H'->Q (.int (ns.sum:Nat)) H')
theorem Z5c {Z6 Z5 Z1 Z2 Z4 Z3 Z0:Addr} (R:g.Raw "sum_of_sizes" "sum_of_sizes" yq ["keys"]) (dO:g.mg "sum"=none):g.Fn (1) "sum_of_sizes" ["keys"] (KH g.K):=by
 refine R.fn Z53 (fun vs H Q E h=>by obtain ⟨b,ks,ns,rfl,hb,hk,q⟩:=h;rfl) fun f_ cdv A outer s H vs Q E hr h=>?_
 obtain ⟨b,ks,ns,rfl,hb,hk,q⟩:=h;refine ⟨_,(@Yf _ _ _ (@Ym _ _ _ _ (@YS _ _ _ _ _ _ _ _ _ _ dO Uj (@Ya _ _ _ _ _ (@X2 _ _ _ _ _ _ _ ([none]) ((["key"]:List Str)) _ (YG 0) _ _ (.own .nil) rfl (@Xo _ _ _ _ (pv 0)) (fun cl C s₀ H₀ fp pn=>(@YK _ _ (0) _ (show List.Nodup (["key"]:List Str) by decide +kernel) rfl (.inl rfl) (.inr rfl))) (fun cl C s₀ H₀ fp pn=>Xc) (fun cl C s₀ H₀ fp pn=>(@Yo _ _ _ _ _ _ _ (T7 (K:=g.K)) (pv 0) Yh (fun _ _=>rfl))) (by intro x hx;simp at hx) (by rfl) (by decide) (by decide +kernel) (by intro _;rfl)) Yb (by rfl)) (by decide +kernel) (by rfl) (by rfl) (by decide) (by decide) (by rfl) (by rfl)))),?_⟩;walk_at "rd";obtain ⟨hk1,hk2,hk3⟩:=hk;refine VC (K:=g.K) (xs:=ks) ((ns.map fun (n:Nat)=>(n:Int)).map V.int) (fun R r=>by walk_at "rd";exact r b H (.refl H) (ao.of hb)) (by simp [hk1]) (by omega) ?_ ?_
 ·intro i x y H' hx hy sm R r
  have hj:=(List.getElem?_eq_some_iff.mp hx).1;have f2:ns[i]?=some (ns[i]'(by omega)):=List.getElem?_eq_getElem _;have:=hk3 i x _ hx f2;rw [List.getElem?_map,List.getElem?_map,f2] at hy
  cases Option.some.inj hy
  cases this with
  | mk e2 =>
   walk_at "rd";exact ⟨_,au.of (sm _ _ e2),_,WU _ _,r H' (.refl H')⟩
 ·intro D H' hD sm hd
  refine ⟨D,rfl,_,ao.of hd,?_⟩;rw [Yfr];exact q H' sm
inductive KJ (K:W.Frag) (vs:List V) (H:Hp) (Q:VK) (E_:XK):Prop
 | mk (prs:aL) (a:Addr) (sh:Sh) (v:V) (d:PyData) (b:Addr) (ks:List V) (ns:List Nat) (h0:vs=[.ref a,v,.ref b]) (h1:Den K H (.ref a) (kd sh)) (h2:aH prs sh) (h3:Vt H v d) (h4:mY sh d) (h5:H b=some (.lst ks)) (h6:ql H ks ns) (h7:(kind sh=3\/kind sh=5->ns≠[])) (h8:∀ k H',Yj H H'->iU H' k (gq sh d ns)->Q k H')
theorem YbJ {k:Nat} {Z6 Z5 Z1 Z2 Z4 Z3 Z0:Addr} (R:g.Raw "key_made" "key_made" yr ["shape","value","keys"]) (qj:g.Fn k "branch_place" ["branches","mark"] (u6 g.K)) (Z5t:g.Fn k "sum_of_sizes" ["keys"] (KH g.K)) (Zv:g.mg "tuple"=none):g.Fn (k+1) "key_made" ["shape","value","keys"] (KJ g.K):=by
 refine R.fn Ih (fun vs H Q E h=>by obtain ⟨prs,a,sh,v,d,b,ks,ns,rfl,hk,hok,hv,hw,hb,hky,hne,q⟩:=h;rfl) fun f_ cdv A outer s H vs Q E hr h=>?_
 obtain ⟨prs,a,sh,v,d,b,ks,ns,rfl,hk,hok,hv,hw,hb,hky,hne,q⟩:=h;refine ⟨_,(@Ye _ _ _ _ _ (@Yz _ _ (3) _ _ _ _ Ih.nd rfl (.inl rfl) (@Yo _ _ _ _ _ _ _ Ys (pv 0) Yh (fun _ _=>rfl)) (by rfl) (by first | exact .inl rfl | exact .inr rfl | assumption)) (@Ye _ _ _ _ _ (@Yy _ _ _ _ _ _ _ _ (@Yl _ _ _ _ _ _ _ _ YC (pv 3) Yk (Yn _)) (@Yf _ _ _ (@Ym _ _ _ _ (@Yu _ _ _ _ _ (@Ya _ _ _ _ _ (@Sd _ _ _ _ _ _ _ _ _ F.plainAttrs_int F.slot_int_bit_length F.type_int_bit_length T8 (@YR _ _ _ _ _ _ _ _ WO (pv 1) (@Yo _ _ _ _ _ _ _ Ys (pv 0) Yh (fun _ _=>rfl))) (by rfl) (by rfl)) (@Ya _ _ _ _ _ (pv 1) Yb (by rfl)) (by rfl))))) Yq) (@Ye _ _ _ _ _ (@Yy _ _ _ _ _ _ _ _ (@Yl _ _ _ _ _ _ _ _ YC (pv 3) Yk (Yn _)) (@Yf _ _ _ Y4) Yq) (@Ye _ _ _ _ _ (@Yy _ _ _ _ _ _ _ _ (@Yl _ _ _ _ _ _ _ _ YC (pv 3) Yk (Yn _)) (@Yf _ _ _ (@Ym _ _ _ _ (@Vz _ _ _ _ _ _ _ _ _ _ Zv X9 (@Ya _ _ _ _ _ (@YR _ _ _ _ _ _ _ _ Sq (@Y5 _ _ _ _ (@Ya _ _ _ _ _ (@YA _ _ _ _ _ _ _ _ _ _ _ _ Z5t hr (@Ya _ _ _ _ _ (pv 2) Yb (by rfl)) (by omega) (by rfl) (by rfl) (by decide) (by rfl) (by rfl)) Yb (by rfl))) (pv 2)) Yb (by rfl)) (by decide +kernel) (by rfl) (by rfl) (by decide) (by decide) (by rfl) (by rfl)))) Yq) (@Ye _ _ _ _ _ (@Yy _ _ _ _ _ _ _ _ (@Yl _ _ _ _ _ _ _ _ YC (pv 3) Yk (Yn _)) (@Yf _ _ _ (@Ym _ _ _ _ (@Yu _ _ _ _ _ (@Ya _ _ _ _ _ (@Yo _ _ _ _ _ _ _ Ys (@Yo _ _ _ _ _ _ _ YL (pv 2) Yh (fun _ _=>rfl)) Yh (fun _ _=>rfl)) (@Ya _ _ _ _ _ (@YA _ _ _ _ _ _ _ _ _ _ _ _ qj hr (@Ya _ _ _ _ _ (@Yo _ _ _ _ _ _ _ Ys (pv 0) Yh (fun _ _=>rfl)) (@Ya _ _ _ _ _ (@Yo _ _ _ _ _ _ _ Ys (pv 1) Yh (fun _ _=>rfl)) Yb (by rfl)) (by rfl)) (by omega) (by rfl) (by rfl) (by decide) (by rfl) (by rfl)) (@Ya _ _ _ _ _ (@Yo _ _ _ _ _ _ _ YL (pv 2) Yh (fun _ _=>rfl)) Yb (by rfl)) (by rfl)) (by rfl))))) Yq) (@Ye _ _ _ _ _ (@Yy _ _ _ _ _ _ _ _ (@Yl _ _ _ _ _ _ _ _ YC (pv 3) Yk (Yn _)) (@Yf _ _ _ (@Ym _ _ _ _ (@Yu _ _ _ _ _ (@Ya _ _ _ _ _ (@YR _ _ _ _ _ _ _ _ Wp Yh (@Yo _ _ _ _ _ _ _ Ys (@Yo _ _ _ _ _ _ _ YL (pv 2) Yh (fun _ _=>rfl)) Yh (fun _ _=>rfl))) (@Ya _ _ _ _ _ (@Yo _ _ _ _ _ _ _ YL (pv 2) Yh (fun _ _=>rfl)) Yb (by rfl)) (by rfl))))) Yq) (@Yf _ _ _ Y4))))))),?_⟩;refine Yv fun R rr=>?_
 walk_at "rd"
 cases sh with
 | w lo span =>
  have hT:=Uy hk
  cases d with
  | int i =>
   cases Bd hv
   refine ⟨_,hT,_,Yr (j:=0) rfl,rr _ _ (take rfl rfl ?_)⟩;walk_at "rd";refine ⟨_,hT,_,Yr (j:=1) rfl,_,rfl,rfl,few (by decide),fun X gX=>q _ _ (.aj gX _) (.mk (n:=gq (.w lo span) (.int i) ns) Yd)⟩
  | _=>exact hw.elim
 | row ps =>
  obtain ⟨c,bs,hT,hc,Af,hbs⟩:=Q2 hk;refine ⟨_,hT,_,Yr (j:=0) rfl,rr _ _ (YW rfl (by decide +kernel) (YW rfl (by decide +kernel) (take rfl rfl ?_)))⟩;walk_at "rd";refine ⟨b,ks,ns,rfl,hb,hky,fun H1 s1=>⟨few (by decide),fun X gX=>?_⟩⟩;have sX:=Yj.aj gX (.lst [.int (ns.sum:Nat)]);refine ⟨_,Yd,_,sX _ _ (s1 _ _ hb),few (by have:=hky.few;simp;omega),fun Y gY=>⟨_,.inl ⟨ao.of Yd,fun Z gZ=>?_⟩⟩⟩;exact q _ _ (((s1.trans sX).trans (.aj gY _)).trans (.aj gZ _)) (.mk (n:=gq (.row ps) d ns) Yd)
 | pick mk ps =>
  rw [aH] at hok
  obtain ⟨c,ts,bs,hT,hc,hbr,hbs⟩:=Qg hok.1 hk;obtain ⟨x,e,rfl⟩:=UT hw;obtain ⟨y,u,rfl,hy,hu⟩:=X7 hv;obtain ⟨k0,r0,ks',rfl,h0⟩:=hky.head (hne (.inl rfl));refine ⟨_,hT,_,Yr (j:=0) rfl,rr _ _ (YW rfl (by decide +kernel) (YW rfl (by decide +kernel) (YW rfl (by decide +kernel) (take rfl rfl ?_))))⟩;walk_at "rd";refine ⟨_,ao.of hb,_,WU _ _,k0,rfl,_,au.of h0,_,WU _ _,_,hT,_,Yr (j:=1) rfl,_,au.of hy,_,Yr (j:=0) rfl,c,ts,mk,bs,x,rfl,hc,hbr,fun H1 s1=>⟨_,ao.of (s1 _ _ hb),_,WU _ _,few (by decide),fun X gX=>?_⟩⟩;exact q _ _ (s1.trans (.aj gX _)) (.mk (n:=gq (.pick mk ps) _ ns) Yd)
 | use x =>
  have hT:=Q3 hk;obtain ⟨k0,r0,ks',rfl,h0⟩:=hky.head (hne (.inr rfl));refine ⟨_,hT,_,Yr (j:=0) rfl,rr _ _ (YW rfl (by decide +kernel) (YW rfl (by decide +kernel) (YW rfl (by decide +kernel) (YW rfl (by decide +kernel) (take rfl rfl ?_)))))⟩;walk_at "rd";refine ⟨_,ao.of hb,_,WU _ _,k0,rfl,_,au.of h0,_,WU _ _,_,rfl,_,ao.of hb,_,WU _ _,few (by decide),fun X gX=>?_⟩;refine q _ _ (.aj gX _) (.mk (n:=gq (.use x) d ns) (r:=[.ref k0]) ?_);rw [Yd,show gq (.use x) d ns=1+ns.headD 0 by cases d<;>rfl];rfl
theorem W5 {K:W.Frag} {tl:TE} {g:TG} {tb:TS} {D:Ends} {σ:St} {H:Hp} (G:Addr->List V->Hp->Prop) (ha:∀ R:V->Hp->Prop,(∀ a xs H1,ao K H1 a xs->G a xs H1->R (.ref a) H1)->tl σ H R)
  (hb:∀ a xs H1,ao K H1 a xs->G a xs H1->∃ Pv:Nat->St->Hp->Prop,Pv 0 σ H1/\(∀ i σ H,i<=xs.length->Pv i σ H->ao K H a xs)/\(∀ (i:Nat) x σ H,xs[i]?=some x->Pv i σ H->g x σ H fun σ2 H2=>tb { D with nx:=Pv (i+1),ct:=Pv (i+1),bk:=D.nx } σ2 H2)/\(∀ σ H,Pv xs.length σ H->D.nx σ H)) :
  QM (W0 K tl) g tb D σ H :=
 ha _ fun a xs H1 hS hG=>by
  obtain ⟨Pv,h0,hl,hs,hd⟩:=hb a xs H1 hS hG;exact ⟨a,rfl,⟨xs,hS⟩,Fv Pv h0 hl hs hd⟩
structure Tp (H H':Hp):Prop where
 t:∀ a us,H a=some (.tup us)->H' a=some (.tup us)
 k:XO H H'
theorem Em {H H':Hp} (s:Yj H H'):Tp H H':=⟨fun a us h=>s _ _ h,Wd s⟩
theorem Yes {H:Hp} {p:Addr} {xs ys:List V} (h:H p=some (.lst xs)):Tp H (upd H p (.lst ys)):=⟨fun a us e=>by rw [Yg (Xh e h (by intro z;cases z))];exact e,Wb (fun b o hb e=>by rw [Yg hb];exact e) h (by intro xs z;cases z) (by intro o v z;cases z)⟩
theorem Tp.trans {H H' aK:Hp} (a:Tp H H') (b:Tp H' aK):Tp H aK:=⟨fun x us h=>b.t _ _ (a.t _ _ h),a.k.trans b.k⟩
theorem mZ.tp {K:W.Frag} {H H':Hp} {t:Addr} {w:Sh×PyData} (h:mZ K H t w) (s:Tp H H'):mZ K H' t w:=by
 obtain ⟨b,u,h1,h2,h3⟩:=h.ex;exact ⟨b,u,s.k.sq h1,HJ s.k (UR _) h2,h3.mono fun a us n e=>⟨n,s.t _ _ e⟩⟩
theorem Xy.keep' {K:W.Frag} {H H':Hp} {B:Addr} {prs:aL} (h:Xy K H B prs) (s:Yj H H'):Xy K H' B prs:=by
 obtain ⟨vs,h1,h2,h3⟩:=h;exact ⟨vs,s _ _ h1,h2,fun i v q a b=>by obtain ⟨T,c,e,f1,f2⟩:=h3 i v q a b;exact ⟨T,c,e,s.tup f1,f2.keep s⟩⟩
def wz (bk:List Nat->Sh):Nat->Sh->PyData->Option Nat
 | 0,_,_=>none
 | n+1,sh,d=>if frm sh d=true then ((cM bk sh d).mapM fun w=>wz bk n w.1 w.2).map (gq sh d) else none
def Wf (bk:List Nat->Sh):Nat->Sh->PyData->Prop
 | 0,_,_=>False
 | n+1,sh,d=>mY sh d/\(frm sh d=true->∀ w∈cM bk sh d,Wf bk n w.1 w.2)
theorem Yhj {prs:aL} (ob:cg prs) {sh:Sh} {d:PyData} (h:aH prs sh):∀ w∈cM (aD prs) sh d,aH prs w.1:=by
 intro w hw;unfold cM at hw
 split at hw
 ·rw [aH] at h
  exact We h.2 (List.of_mem_zip (a:=w.1) (b:=w.2) hw).1
 ·rw [aH] at h
  obtain ⟨p,hp,rfl⟩:=List.mem_map.mp hw;rw [Option.mem_toList,Option.bind_eq_some_iff] at hp
  obtain ⟨i,_,hi⟩:=hp;exact We h.2.2.1 (List.mem_of_getElem? hi)
 ·rw [aH] at h
  obtain ⟨q,hq⟩:=h;obtain ⟨e,hm⟩:=Wg hq
  cases List.mem_singleton.mp hw
  show aH prs (aD prs _)
  rw [e];exact ob.ok q hm
 ·cases hw
theorem Yhk {prs:aL} {sh:Sh} {d:PyData} (hok:aH prs sh) (hw:mY sh d) (hf:frm sh d=true) (hk:kind sh=3\/kind sh=5):cM (aD prs) sh d≠[]:=by
 cases sh with
 | w lo span=>simp [kind] at hk
 | row ps=>simp [kind] at hk
 | pick mk ps =>
  rw [aH] at hok
  obtain ⟨x,e,rfl⟩:=UT hw;obtain ⟨i,hi⟩:=Option.isSome_iff_exists.mp (show (bR mk x).isSome=true from hf);have:=Bc hi;have hl:=hok.1
  show (((bR mk x).bind fun i=>ps[i]?).toList.map fun p=>(p,e))≠[]
  rw [hi,Option.bind_some,List.getElem?_eq_getElem (by omega)];simp
 | use x=>cases d<;>simp [cM]
theorem KN {α β:Type} {f:α->Option β}:∀ {l:List α} {r:List β},l.mapM f=some r->r.length=l.length
 | [],r,h=>by rw [List.mapM_nil] at h;cases h;rfl
 | a::l,r,h=>by
  rw [List.mapM_cons] at h
  cases e1:f a with
  | none=>rw [e1] at h;cases h
  | some b =>
   cases e2:l.mapM f with
   | none=>rw [e1,e2] at h;cases h
   | some bs=>rw [e1,e2] at h;cases h;exact congrArg (·+1) (KN e2)
theorem Yet {α β:Type} {f:α->Option β} {l:List α} {r:List β} {i:Nat} {a:α} {b:β} (h:(l.take i).mapM f=some r) (ha:l[i]?=some a) (hb:f a=some b):(l.take (i+1)).mapM f=some (r++[b]):=by
 rw [Xn ha,List.mapM_append,h];simp [hb]
theorem KQ {α β:Type} {f:α->Option β} {a:α}:∀ {l:List α},a∈l->f a=none->l.mapM f=none
 | b::l,h,e=>by
  rw [List.mapM_cons]
  cases e1:f b with
  | none=>rfl
  | some c =>
   rcases List.mem_cons.mp h with rfl | h
   ·rw [e] at e1;cases e1
   ·rw [KQ h e];rfl
inductive qm (K:W.Frag) (l:Nat) (vs:List V) (H:Hp) (Q:VK) (E_:XK):Prop
 | mk (prs:aL) (B a:Addr) (sh:Sh) (v:V) (d:PyData) (h0:vs=[.ref B,.ref a,v]) (h1:Xy K H B prs) (h2:cg prs) (h3:Den K H (.ref a) (kd sh)) (h4:aH prs sh) (h5:Vt H v d) (h6:Wf (aD prs) l sh d) (h7:(∀ n,wz (aD prs) l sh d=some n->∀ k H',Yj H H'->iU H' k n->Q k H')) (h8:(wz (aD prs) l sh d=none->∀ H',Yj H H'->Q .non H'))
theorem Ydh {K:W.Frag} {vs:List V} {H:Hp} {Q:VK} {E:XK} (h:qm K 0 vs H Q E):False:=by
 obtain ⟨prs,B,a,sh,v,d,_,_,_,_,_,_,h,_⟩:=h;exact h
inductive WV (K:W.Frag) (bk:List Nat->Sh) (m:Nat) (H1:Hp) (B a:Addr) (v:V) (p l:Addr) (ts:List Addr) (ws:List (Sh×PyData)) (i:Nat) (σ:St) (H':Hp):Prop
 | mk (o4 o5 o6:Option V) (ks:List V) (ns:List Nat) (e:σ=[some (.ref B),some (.ref a),some v,some (.ref p),o4,o5,o6]) (s:Yj H1 H') (hp:H' p=some (.lst ks)) (hl:H' l=some (.lst (ts.map V.ref))) (pr:∀ (j:Nat) t w,ts[j]?=some t->ws[j]?=some w->mZ K H' t w) (ky:ql H' ks ns) (len:ks.length=i) (mm:(ws.take i).mapM (fun w=>wz bk m w.1 w.2)=some ns)
theorem ZA {k:Nat} {Z6 Z5 Z1 Z2 Z4 Z3 Z0:Addr} (R:g.Raw "weighed" "weighed" yt ["book","shape","value"]) (oH:g.Fn k "has_form" ["shape","value"] (KD g.K)) (Z5d:g.Fn k "things_within" ["book","shape","value"] (iT g.K)) (oJ:g.Fn k "key_made" ["shape","value","keys"] (KJ g.K)) (qp:g.Fn k "weighed" ["book","shape","value"] (qm g.K m)):g.Fn (k+1) "weighed" ["book","shape","value"] (qm g.K (m+1)):=by
 refine R.fn pO (fun vs H Q E h=>by obtain ⟨prs,B,a,sh,v,d,rfl,hB,ob,hk,hok,hv,hw,q1,q2⟩:=h;rfl) fun f_ cdv A outer s H vs Q E hr h=>?_
 obtain ⟨prs,B,a,sh,v,d,rfl,hB,ob,hk,hok,hv,hw,q1,q2⟩:=h;refine ⟨_,(@Ye _ _ _ _ _ (@Yy _ _ _ _ _ _ _ _ (@WL _ _ _ _ (@Vb _ _ _ (@YA _ _ _ _ _ _ _ _ _ _ _ _ oH hr (@Ya _ _ _ _ _ (pv 1) (@Ya _ _ _ _ _ (pv 2) Yb (by rfl)) (by rfl)) (by omega) (by rfl) (by rfl) (by decide) (by rfl) (by rfl)) (by intro _;rfl))) (@Yf _ _ _ (@Ym _ _ _ _ X5)) Yq) (@Ye _ _ _ _ _ (@Yz _ _ (3) _ _ _ _ pO.nd rfl (.inl rfl) (@Y5 _ _ _ _ Yb) (by rfl) (by first | exact .inl rfl | exact .inr rfl | assumption)) (@Ye _ _ _ _ _ (@WN _ _ _ _ _ _ _ _ PassesOwn.never rfl (@Xo _ _ _ _ (@YA _ _ _ _ _ _ _ _ _ _ _ _ Z5d hr (@Ya _ _ _ _ _ (pv 0) (@Ya _ _ _ _ _ (pv 1) (@Ya _ _ _ _ _ (pv 2) Yb (by rfl)) (by rfl)) (by rfl)) (by omega) (by rfl) (by rfl) (by decide) (by rfl) (by rfl))) (@VI _ _ _ _ _ (2) rfl (@Xk _ _ _ _ _ (@YK _ _ (4) _ pO.nd rfl (.inl rfl) (by first | exact .inl rfl | exact .inr rfl | assumption)) (@Xk _ _ _ _ _ (@YK _ _ (5) _ pO.nd rfl (.inl rfl) (by first | exact .inl rfl | exact .inr rfl | assumption)) W6 (by rfl)) (by rfl)) (by rfl) (by rfl)) (@Ye _ _ _ _ _ (@Yz _ _ (6) _ _ _ _ pO.nd rfl (.inl rfl) (@YA _ _ _ _ _ _ _ _ _ _ _ _ qp hr (@Ya _ _ _ _ _ (pv 0) (@Ya _ _ _ _ _ (pv 4) (@Ya _ _ _ _ _ (pv 5) Yb (by rfl)) (by rfl)) (by rfl)) (by omega) (by rfl) (by rfl) (by decide) (by rfl) (by rfl)) (by rfl) (by first | exact .inl rfl | exact .inr rfl | assumption)) (@Ye _ _ _ _ _ (@Yy _ _ _ _ _ _ _ _ (@Yl _ _ _ _ _ _ _ _ FQ (pv 6) X5 (Yn _)) (@Yf _ _ _ (@Ym _ _ _ _ X5)) Yq) (@Yf _ _ _ (@Xb _ _ _ _ (@Vv _ _ _ _ _ _ _ _ _ _ _ _ F.plainAttrs_list F.slot_list_append F.type_list_append Xu (pv 3) (@Ya _ _ _ _ _ (pv 6) Yb (by rfl)) (by rfl) (by rfl) (by rfl) (by rfl) (by rfl)) (by rfl))))) (by intro _;rfl)) (@Yf _ _ _ (@Ym _ _ _ _ (@YA _ _ _ _ _ _ _ _ _ _ _ _ oJ hr (@Ya _ _ _ _ _ (pv 1) (@Ya _ _ _ _ _ (pv 2) (@Ya _ _ _ _ _ (pv 3) Yb (by rfl)) (by rfl)) (by rfl)) (by omega) (by rfl) (by rfl) (by decide) (by rfl) (by rfl))))))),?_⟩;obtain ⟨hw0,hw1⟩:=hw;refine Yv fun R rr=>?_
 walk_at "rd";refine ⟨prs,a,sh,v,d,rfl,hk,hok,hv,hw0,fun H1 s1=>?_⟩;walk_at "rd"
 cases hf:frm sh d with
 | false=>exact WY (by simp) (q2 (by rw [wz,hf];rfl) H1 s1)
 | true =>
 refine XG (by simp) (rr _ _ (Yv fun R rr=>?_));walk_at "rd";refine ⟨few (by decide),fun p gp=>rr _ _ (Yv fun R rr=>?_)⟩;have sp:=Yj.aj gp (.lst []);have s2:=s1.trans sp;refine W5 (fun l xs H2=>∃ ts:List Addr,xs=ts.map V.ref/\Yj (upd H1 p (.lst [])) H2/\H2 l=some (.lst (ts.map V.ref))/\l≠p/\ts.length=(cM (aD prs) sh d).length/\ts.length<=100/\∀ (j:Nat) t w,ts[j]?=some t->(cM (aD prs) sh d)[j]?=some w->mZ g.K H2 t w) (fun R r=>?_) ?_
 ·walk_at "rd"
  exact ⟨prs,B,a,sh,v,d,rfl,hB.keep' s2,hk.keep s2,hok,hv.same s2,hw0,hf,fun L ts H' s' gL hL hl1 hl2 hpr=>r L _ H' (ao.of hL) ⟨ts,rfl,s',hL,(fun e=>by rw [e,Yd] at gL;cases gL),hl1,hl2,hpr⟩⟩
 ·rintro l xs H2 hS ⟨ts,rfl,s3,hl,hlp,hl1,hl2,hpr⟩
  refine ⟨WV g.K (aD prs) m H1 B a v p l ts (cM (aD prs) sh d),⟨none,none,none,[],[],rfl,sp.trans s3,s3 _ _ Yd,hl,hpr,⟨rfl,Nat.zero_le _,fun i k n h=>by cases h⟩,rfl,rfl⟩,fun i σ H' _ ⟨_,_,_,_,_,_,_,_,hl',_,_,_,_⟩=>ao.of hl',?_,?_⟩
  ·rintro i x σ H' hx ⟨o4,o5,o6,ks,ns,rfl,s4,iV,u9,pr4,jL,Bf,qt⟩
   rw [List.getElem?_map] at hx
   obtain ⟨t,ht,rfl⟩:=Option.map_eq_some_iff.mp hx;have hi:=(List.getElem?_eq_some_iff.mp ht).1;have hwi:(cM (aD prs) sh d)[i]?=some ((cM (aD prs) sh d)[i]'(by omega)):=List.getElem?_eq_getElem _;generalize (cM (aD prs) sh d)[i]'(by omega)=w at hwi;have Bg:=List.mem_of_getElem? hwi;obtain ⟨b,u,e1,e2,e3⟩:=(pr4 i t w ht hwi).ex;have kl:=jL.few;refine ⟨t,_,rfl,e1,rfl,_,_,rfl,_,_,rfl,rfl,Yv fun R rr=>?_⟩;walk_at "rd";refine ⟨prs,B,b,w.1,u,w.2,rfl,hB.keep' (s1.trans s4),ob,e2,Yhj ob hok w Bg,e3,hw1 hf w Bg,fun n hn k H5 s5 vd=>rr _ _ (Yv fun R rr=>?_),fun hn H5 s5=>rr _ _ (Yv fun R rr=>?_)⟩
   ·have O4:=vd
    cases vd with
    | @mk ka _ rr0 hka =>
     walk_at "rd";refine XG (by simp) (rr _ _ ?_);walk_at "rd";refine ⟨.inl ⟨rfl,_,ao.of (s5 _ _ iV)⟩,_,s5 _ _ iV,few (by omega),?_⟩;have tp:=(Em s5).trans (Yes (s5 _ _ iV) (ys:=ks++[.ref ka]));refine ⟨_,_,_,ks++[.ref ka],ns++[n],rfl,.cO gp (s4.trans s5) _,Yd,by rw [Yg hlp];exact s5 _ _ u9,fun j t w a b=>(pr4 j t w a b).tp tp,⟨by rw [List.length_append,List.length_append,jL.len];rfl,by rw [List.length_append,List.length_singleton];omega,fun j k' n' h1 h2=>?_⟩,by rw [List.length_append,Bf];rfl,Yet qt hwi hn⟩;by_cases c:j<ks.length
     ·rw [List.getElem?_append_left c] at h1
      rw [List.getElem?_append_left (by rw [<- jL.len];exact c)] at h2
      exact (jL.at_ j k' n' h1 h2).keep tp.t
     ·have hj:j=ks.length:=by
       have:=(List.getElem?_eq_some_iff.mp h1).1;rw [List.length_append,List.length_singleton] at this
       omega
      rw [hj,List.getElem?_append_right (Nat.le_refl _),Nat.sub_self] at h1
      rw [hj,jL.len,List.getElem?_append_right (Nat.le_refl _),Nat.sub_self] at h2
      cases Option.some.inj h1
      cases Option.some.inj h2
      exact O4.keep (Yes (s5 _ _ iV)).t
   ·walk_at "rd"
    refine q2 ?_ H5 ((s1.trans s4).trans s5);rw [wz,if_pos hf,KQ Bg hn];rfl
  ·rintro σ H' ⟨o4,o5,o6,ks,ns,rfl,s4,iV,u9,pr4,jL,Bf,qt⟩
   refine rr _ _ ?_;rw [List.length_map,hl1,List.take_length] at qt
   walk_at "rd";have Bh:=s1.trans s4;refine ⟨prs,a,sh,v,d,p,ks,ns,rfl,hk.keep Bh,hok,hv.same Bh,hw0,iV,jL,fun hki e=>?_,fun k H5 s5 vd=>q1 _ (by rw [wz,if_pos hf,qt];rfl) k H5 (Bh.trans s5) vd⟩;have:=KN qt;rw [e] at this
   exact Yhk hok hw0 hf hki (List.length_eq_zero_iff.mp this.symm)
inductive m8 (K:W.Frag) (l:Nat) (vs:List V) (H:Hp) (Q:VK) (E_:XK):Prop
 | mk (prs:aL) (B a:Addr) (sh:Sh) (v:V) (d:PyData) (h0:vs=[.ref B,.ref a,v]) (h1:Xy K H B prs) (h2:cg prs) (h3:Den K H (.ref a) (kd sh)) (h4:aH prs sh) (h5:Vt H v d) (h6:Wf (aD prs) l sh d) (h7:∀ H',Yj H H'->Q (.bl (wz (aD prs) l sh d).isSome) H')
theorem YgB {k:Nat} {Z6 Z5 Z1 Z2 Z4 Z3 Z0:Addr} (R:g.Raw "fits" "fits" yH ["book","shape","value"]) (qp:g.Fn k "weighed" ["book","shape","value"] (qm g.K 24)):g.Fn (k+1) "fits" ["book","shape","value"] (m8 g.K 24):=by
 refine R.fn Ygt (fun vs H Q E h=>by obtain ⟨prs,B,a,sh,v,d,rfl,hB,ob,hk,hok,hv,hw,q⟩:=h;rfl) fun f_ cdv A outer s H vs Q E hr h=>?_
 obtain ⟨prs,B,a,sh,v,d,rfl,hB,ob,hk,hok,hv,hw,q⟩:=h;refine ⟨_,(@Yf _ _ _ (@Ym _ _ _ _ (@X1 _ _ _ _ _ _ _ _ FT (@YA _ _ _ _ _ _ _ _ _ _ _ _ qp hr (@Ya _ _ _ _ _ (pv 0) (@Ya _ _ _ _ _ (pv 1) (@Ya _ _ _ _ _ (pv 2) Yb (by rfl)) (by rfl)) (by rfl)) (by omega) (by rfl) (by rfl) (by decide) (by rfl) (by rfl)) X5 (Yn _)))),?_⟩;walk_at "rd";refine ⟨prs,B,a,sh,v,d,rfl,hB,ob,hk,hok,hv,hw,fun n hn k H' s hk'=>?_,fun hn H' s=>?_⟩
 ·cases hk' with
  | mk h =>
   have:=q H' s;rw [hn] at this
   walk_at "rd";exact this
 ·have:=q H' s
  rw [hn] at this
  walk_at "rd";exact this
inductive qu (K:W.Frag) (l:Nat) (vs:List V) (H:Hp) (Q:VK) (E_:XK):Prop
 | mk (prs:aL) (B a:Addr) (sh:Sh) (v:V) (d:PyData) (n:Nat) (h0:vs=[.ref B,.ref a,v]) (h1:Xy K H B prs) (h2:cg prs) (h3:Den K H (.ref a) (kd sh)) (h4:aH prs sh) (h5:Vt H v d) (h6:Wf (aD prs) l sh d) (h7:wz (aD prs) l sh d=some n) (h8:∀ k H',Yj H H'->iU H' k n->Q k H')
theorem Z4H {k:Nat} {Z6 Z5 Z1 Z2 Z4 Z3 Z0:Addr} (R:g.Raw "key_or_refusal" "key_or_refusal" yG ["book","shape","value"]) (qp:g.Fn k "weighed" ["book","shape","value"] (qm g.K 24)):g.Fn (k+1) "key_or_refusal" ["book","shape","value"] (qu g.K 24):=by
 refine R.fn Ij (fun vs H Q E h=>by obtain ⟨prs,B,a,sh,v,d,n,rfl,hB,ob,hk,hok,hv,hw,hn,q⟩:=h;rfl) fun f_ cdv A outer s H vs Q E hr h=>?_
 obtain ⟨prs,B,a,sh,v,d,n,rfl,hB,ob,hk,hok,hv,hw,hn,q⟩:=h;refine ⟨_,(@Ye _ _ _ _ _ (@Yz _ _ (3) _ _ _ _ Ij.nd rfl (.inl rfl) (@YA _ _ _ _ _ _ _ _ _ _ _ _ qp hr (@Ya _ _ _ _ _ (pv 0) (@Ya _ _ _ _ _ (pv 1) (@Ya _ _ _ _ _ (pv 2) Yb (by rfl)) (by rfl)) (by rfl)) (by omega) (by rfl) (by rfl) (by decide) (by rfl) (by rfl)) (by rfl) (by first | exact .inl rfl | exact .inr rfl | assumption)) (@Ye _ _ _ _ _ (@Yy _ _ _ _ _ _ _ _ (@Yl _ _ _ _ _ _ _ _ FQ (pv 3) X5 (Yn _)) (@Yf _ _ _ Y4) Yq) (@Yf _ _ _ (@Ym _ _ _ _ (pv 3))))),?_⟩;walk_at "rd";refine ⟨prs,B,a,sh,v,d,rfl,hB,ob,hk,hok,hv,hw,fun n' hn' k H' s hk'=>?_,fun hn' H' s=>by rw [hn] at hn';cases hn'⟩;rw [hn] at hn'
 cases hn'
 have:=q k H' s hk'
 cases hk' with
 | mk h =>
  walk_at "rd";exact XG (by simp) this
inductive KR (K:W.Frag) (l:Nat) (vs:List V) (H:Hp) (Q:VK) (E_:XK):Prop
 | mk (prs:aL) (B a:Addr) (sh:Sh) (v:V) (d:PyData) (n:Nat) (h0:vs=[.ref B,.ref a,v]) (h1:Xy K H B prs) (h2:cg prs) (h3:Den K H (.ref a) (kd sh)) (h4:aH prs sh) (h5:Vt H v d) (h6:Wf (aD prs) l sh d) (h7:wz (aD prs) l sh d=some n) (h8:∀ H',Yj H H'->Q (.int (n:Nat)) H')
theorem Ydi {k:Nat} {Z6 Z5 Z1 Z2 Z4 Z3 Z0:Addr} (R:g.Raw "size_of" "size_of" yI ["book","shape","value"]) (Z4Z:g.Fn k "key_or_refusal" ["book","shape","value"] (qu g.K 24)):g.Fn (k+1) "size_of" ["book","shape","value"] (KR g.K 24):=by
 refine R.fn Yc5 (fun vs H Q E h=>by obtain ⟨prs,B,a,sh,v,d,n,rfl,hB,ob,hk,hok,hv,hw,hn,q⟩:=h;rfl) fun f_ cdv A outer s H vs Q E hr h=>?_
 obtain ⟨prs,B,a,sh,v,d,n,rfl,hB,ob,hk,hok,hv,hw,hn,q⟩:=h;refine ⟨_,(@Yf _ _ _ (@Ym _ _ _ _ (@Yo _ _ _ _ _ _ _ Ys (@YA _ _ _ _ _ _ _ _ _ _ _ _ Z4Z hr (@Ya _ _ _ _ _ (pv 0) (@Ya _ _ _ _ _ (pv 1) (@Ya _ _ _ _ _ (pv 2) Yb (by rfl)) (by rfl)) (by rfl)) (by omega) (by rfl) (by rfl) (by decide) (by rfl) (by rfl)) Yh (fun _ _=>rfl)))),?_⟩;walk_at "rd";refine ⟨prs,B,a,sh,v,d,n,rfl,hB,ob,hk,hok,hv,hw,hn,fun k H' s hk'=>?_⟩;have:=q H' s
 cases hk' with
 | mk h=>exact ⟨_,rfl,_,au.of h,_,WU _ _,this⟩
inductive Mk
 | num | here | count | sum | not | turned | plus | times | less | same | both | each | joined | part | when
 deriving DecidableEq
def Mk.s:Mk->String
 | .num=>"num" | .here=>"here" | .count=>"count" | .sum=>"sum" | .not=>"not" | .turned=>"turned" | .plus=>"plus" | .times=>"times" | .less=>"less" | .same=>"same" | .both=>"both" | .each=>"each" | .joined=>"joined" | .part=>"part" | .when=>"when"
def ms (m:Mk):Str:=Str.ofString m.s
theorem Uz (m m':Mk):(ms m=ms m')=(m=m'):=by
 cases m<;>cases m'<;>simp only [eq_iff_iff,reduceCtorEq,iff_false,iff_true]<;>decide +kernel
theorem En:Str.ofString "num"=ms .num:=rfl
theorem Yhl:Str.ofString "here"=ms .here:=rfl
theorem YgC:Str.ofString "count"=ms .count:=rfl
theorem Eo:Str.ofString "sum"=ms .sum:=rfl
theorem Ep:Str.ofString "not"=ms .not:=rfl
theorem Yfs:Str.ofString "turned"=ms .turned:=rfl
theorem Yhm:Str.ofString "plus"=ms .plus:=rfl
theorem YgD:Str.ofString "times"=ms .times:=rfl
theorem Yhn:Str.ofString "less"=ms .less:=rfl
theorem Yho:Str.ofString "same"=ms .same:=rfl
theorem Yhp:Str.ofString "both"=ms .both:=rfl
theorem Yhq:Str.ofString "each"=ms .each:=rfl
theorem Yft:Str.ofString "joined"=ms .joined:=rfl
theorem Yhr:Str.ofString "part"=ms .part:=rfl
theorem Yhs:Str.ofString "when"=ms .when:=rfl
theorem KY (x:V):inV x []=false:=rfl
theorem UU (a b:Mk) (l:List V):inV (.str (ms a)) (.str (ms b)::l)=(decide (b=a)||inV (.str (ms a)) l):=by
 have:fV (.str (ms b)) (.str (ms a))=decide (b=a):=by
  have h:=Uz b a;simp only [fV];by_cases e:b=a
  ·subst e;simp
  ·have e':ms b≠ms a:=fun z=>e (h▸z)
   simp [e,e']
 rw [inV,List.any_cons,this];rfl
def qv:Option Bool->V
 | none => .non
 | some false => .str (Str.ofString "number")
 | some true => .str (Str.ofString "truth")
def qd:Option Bool->PyData
 | none => .none
 | some false => .str (Str.ofString "number")
 | some true => .str (Str.ofString "truth")
theorem Vk (a b:Option Bool):(qv a=qv b)=(a=b):=by
 rcases a with _ | _ | _<;>rcases b with _ | _ | _<;>simp only [eq_iff_iff,reduceCtorEq,iff_false,iff_true,Option.some.injEq]<;>decide +kernel
theorem KZ:V.str (Str.ofString "truth")=qv (some true):=rfl
theorem Yht {K:W.Frag} {H:Hp} (k:Option Bool):Den K H (qv k) (qd k):=by
 rcases k with _ | _ | _
 ·exact .non
 ·exact .str _ (by decide +kernel)
 ·exact .str _ (by decide +kernel)
theorem Yhu (a b:Option Bool):PyData.eqv (qd a) (qd b)=decide (a=b):=by
 rcases a with _ | _ | _<;>rcases b with _ | _ | _<;>decide +kernel
def kb:Mk->List (Option Bool)->Option Bool
 | .num,_=>some false
 | .here,_=>some false
 | .plus,ks=>if ks=[some false,some false] then some false else none
 | .times,ks=>if ks=[some false,some false] then some false else none
 | .less,ks=>if ks=[some false,some false] then some true else none
 | .same,ks=>if ks=[some false,some false] then some true else none
 | .not,ks=>if ks=[some true] then some true else none
 | .both,ks=>if ks=[some true,some true] then some true else none
 | .when,[a,b,c]=>if a=some true/\b=c then b else none
 | _,_=>none
inductive Tm
 | num (i:Int)
 | here
 | bin (m:Mk) (a b:Tm)
 | not (a:Tm)
 | when (a b c:Tm)
def bG:Tm->Mk
 | .num _ => .num
 | .here => .here
 | .bin m _ _=>m
 | .not _ => .not
 | .when _ _ _ => .when
def inn:Tm->List Tm
 | .bin _ a b=>[a,b]
 | .not a=>[a]
 | .when a b c=>[a,b,c]
 | _=>[]
def td:Tm->PyData
 | .num i => .tuple [.str (ms .num),.int i]
 | .here => .tuple [.str (ms .here),.tuple []]
 | .bin m a b => .tuple [.str (ms m),.tuple [td a,td b]]
 | .not a => .tuple [.str (ms .not),td a]
 | .when a b c => .tuple [.str (ms .when),.tuple [td a,td b,td c]]
def jy:Mk->Bool
 | .plus=>true | .times=>true | .less=>true | .same=>true | .both=>true | _=>false
def cZ:Tm->Prop
 | .bin m a b=>jy m=true/\cZ a/\cZ b
 | .not a=>cZ a
 | .when a b c=>cZ a/\cZ b/\cZ c
 | _=>True
def kn:Tm->Option Bool
 | .num _=>kb .num []
 | .here=>kb .here []
 | .bin m a b=>kb m [kn a,kn b]
 | .not a=>kb .not [kn a]
 | .when a b c=>kb .when [kn a,kn b,kn c]
theorem K1 (x:Tm):kn x=kb (bG x) ((inn x).map kn):=by cases x<;>rfl
def bf:Tm->Nat
 | .bin _ a b=>1+max (bf a) (bf b)
 | .not a=>1+bf a
 | .when a b c=>1+max (bf a) (max (bf b) (bf c))
 | _=>1
theorem Q4 {x y:Tm} (h:y∈inn x):bf y+1<=bf x:=by
 cases x<;>simp only [inn,List.mem_cons,List.not_mem_nil,or_false] at h<;>simp only [bf]
 ·rcases h with rfl | rfl<;>omega
 ·subst h;omega
 ·rcases h with rfl | rfl | rfl<;>omega
theorem Q5 {x y:Tm} (hx:cZ x) (h:y∈inn x):cZ y:=by
 cases x<;>simp only [inn,List.mem_cons,List.not_mem_nil,or_false] at h<;>simp only [cZ] at hx
 ·rcases h with rfl | rfl
  ·exact hx.2.1
  ·exact hx.2.2
 ·subst h;exact hx
 ·rcases h with rfl | rfl | rfl
  ·exact hx.1
  ·exact hx.2.1
  ·exact hx.2.2
def Arg (H:Hp):Mk->V->List V->Prop
 | .num,_,vs=>vs=[]
 | .here,_,vs=>vs=[]
 | .not,r,vs=>vs=[r]
 | .when,r,vs=>∃ (p:Addr) (a b c:V),r = .ref p/\H p=some (.tup [a,b,c])/\vs=[a,b,c]
 | m,r,vs=>jy m=true/\∃ (p:Addr) (a b:V),r = .ref p/\H p=some (.tup [a,b])/\vs=[a,b]
theorem Bj {H:Hp} {v:V} {x:Tm} (hx:cZ x) (h:Vt H v (td x)):∃ (a:Addr) (r:V) (us:List V),v = .ref a/\H a=some (.tup [.str (ms (bG x)),r])/\Arg H (bG x) r us/\us.length=(inn x).length/\∀ (i:Nat) u y,us[i]?=some u->(inn x)[i]?=some y->Vt H u (td y):=by
 cases x with
 | num i =>
  obtain ⟨a,u,rfl,ha,hu⟩:=X7 h;exact ⟨a,u,[],rfl,ha,rfl,rfl,fun i u y h=>by cases h⟩
 | here =>
  obtain ⟨a,u,rfl,ha,hu⟩:=X7 h;exact ⟨a,u,[],rfl,ha,rfl,rfl,fun i u y h=>by cases h⟩
 | bin m p q =>
  obtain ⟨a,u,rfl,ha,hu⟩:=X7 h;obtain ⟨b,vs,rfl,hb,hvs⟩:=VV hu
  cases hvs with
  | @cons v1 _ _ _ h1 h2 =>
   cases h2 with
   | @cons v2 _ _ _ h3 h4 =>
    cases h4
    refine ⟨a,.ref b,[v1,v2],rfl,ha,?_,rfl,fun i u y e1 e2=>?_⟩
    rotate_left
    ·match i,e1,e2 with
     | 0,e1,e2=>cases e1;cases e2;exact h1
     | 1,e1,e2=>cases e1;cases e2;exact h3
    ·have hm:=hx.1
     show Arg H m _ _
     cases m<;>first | exact ⟨rfl,b,_,_,rfl,hb,rfl⟩ | exact absurd hm (by decide)
 | not p =>
  obtain ⟨a,u,rfl,ha,hu⟩:=X7 h;refine ⟨a,u,[u],rfl,ha,rfl,rfl,fun i u y e1 e2=>?_⟩
  match i,e1,e2 with
  | 0,e1,e2=>cases e1;cases e2;exact hu
 | when p q s =>
  obtain ⟨a,u,rfl,ha,hu⟩:=X7 h;obtain ⟨b,vs,rfl,hb,hvs⟩:=VV hu
  cases hvs with
  | @cons v1 _ _ _ h1 h2 =>
   cases h2 with
   | @cons v2 _ _ _ h3 h4 =>
    cases h4 with
    | @cons v3 _ _ _ h5 h6 =>
     cases h6
     refine ⟨a,.ref b,[v1,v2,v3],rfl,ha,⟨b,_,_,_,rfl,hb,rfl⟩,rfl,fun i u y e1 e2=>?_⟩
     match i,e1,e2 with
     | 0,e1,e2=>cases e1;cases e2;exact h1
     | 1,e1,e2=>cases e1;cases e2;exact h3
     | 2,e1,e2=>cases e1;cases e2;exact h5
inductive K3 (K:W.Frag) (vs:List V) (H:Hp) (Q:VK) (E_:XK):Prop
 | mk (a:Addr) (m:Mk) (r:V) (us:List V) (h0:vs=[.ref a]) (h1:H a=some (.tup [.str (ms m),r])) (h2:Arg H m r us) (h3:∀ (L:Addr) H',Yj H H'->H' L=some (.lst us)->Q (.ref L) H')
local macro_rules | `(tactic| walk_at "sd")=>`(tactic| simp (config:={ failIfUnchanged:=false,maxSteps:=10000000 }) only [En,Yhl,YgC,Eo,Ep,Yfs,Yhm,YgD,Yhn,Yho,Yhp,Yhq,Yft,Yhr,Yhs,Uz,UU,KY,Bool.or_false,Bool.false_or,Bool.or_self,Bool.true_or,Bool.or_true,reduceCtorEq,V.str.injEq,List.mem_cons,List.not_mem_nil,or_false,false_or,or_true,true_or,or_self,not_true_eq_false,not_false_eq_true,if_true,if_false,ite_true,ite_false,decide_true,decide_false,Bool.false_eq_true,and_true,true_and,and_false,false_and,false_implies,true_implies])
theorem Z5u {Z6 Z5 Z1 Z2 Z4 Z3 Z0:Addr} (R:g.Raw "inner_terms" "inner_terms" xP ["term"]) (aR:g.mg "list"=none) (qw:g.cj "OF_ONE_TERM" ([.str "count",.str "sum",.str "not",.str "turned"])) (qx:g.cj "OF_TWO_TERMS" ([.str "plus",.str "times",.str "less",.str "same",.str "both",.str "each",.str "joined"])):g.Fn (1) "inner_terms" ["term"] (K3 g.K):=by
 refine R.fn Ia (fun vs H Q E h=>by obtain ⟨a,m,r,us,rfl,ha,hg,q⟩:=h;rfl) fun f_ cdv A outer s H vs Q E hr h=>?_
 obtain ⟨a,m,r,us,rfl,ha,hg,q⟩:=h;refine ⟨_,(@Ye _ _ _ _ _ (@Yz _ _ (1) _ _ _ _ Ia.nd rfl (.inl rfl) (@Yo _ _ _ _ _ _ _ Ys (pv 0) Yh (fun _ _=>rfl)) (by rfl) (by first | exact .inl rfl | exact .inr rfl | assumption)) (@Ye _ _ _ _ _ (@Yy _ _ _ _ _ _ _ _ (@Yl _ _ _ _ _ _ _ _ Xt (pv 1) (@W2 _ _ _ _ _ qw (by rfl) (by rfl) (by decide)) rfl) (@Yf _ _ _ (@Ym _ _ _ _ (@Y5 _ _ _ _ (@Ya _ _ _ _ _ (@Yo _ _ _ _ _ _ _ Ys (pv 0) Yh (fun _ _=>rfl)) Yb (by rfl))))) Yq) (@Ye _ _ _ _ _ (@Yy _ _ _ _ _ _ _ _ (@Yl _ _ _ _ _ _ _ _ YC (pv 1) Yk (Yn _)) (@Yf _ _ _ (@Ym _ _ _ _ (@Y5 _ _ _ _ (@Ya _ _ _ _ _ (@Yo _ _ _ _ _ _ _ Ys (@Yo _ _ _ _ _ _ _ Ys (pv 0) Yh (fun _ _=>rfl)) Yh (fun _ _=>rfl)) Yb (by rfl))))) Yq) (@Ye _ _ _ _ _ (@Yy _ _ _ _ _ _ _ _ (@Vq _ _ _ _ _ _ _ (@Yl _ _ _ _ _ _ _ _ YC (pv 1) Yk (Yn _)) (@Vc _ _ _ _ (@Yl _ _ _ _ _ _ _ _ Xt (pv 1) (@W2 _ _ _ _ _ qx (by rfl) (by rfl) (by decide)) rfl))).pt (@Yf _ _ _ (@Ym _ _ _ _ (@Vz _ _ _ _ _ _ _ _ _ _ aR Vg (@Ya _ _ _ _ _ (@Yo _ _ _ _ _ _ _ Ys (pv 0) Yh (fun _ _=>rfl)) Yb (by rfl)) (by decide +kernel) (by rfl) (by rfl) (by decide) (by decide) (by rfl) (by rfl)))) Yq) (@Yf _ _ _ (@Ym _ _ _ _ (@Y5 _ _ _ _ Yb))))))),?_⟩;refine Yv fun R rr=>?_
 walk_at "rd";refine ⟨_,au.of ha,_,rfl,rr _ _ ?_⟩;walk_at "rd"
 cases m<;>simp only [Arg,jy,Bool.false_eq_true,false_and,true_and] at hg<;>walk_at "sd"
 all_goals try (intro c1 hc1;refine ⟨_,.inr hc1,rfl,rfl,?_⟩;walk_at "sd")
 all_goals try (intro c2 hc2;refine ⟨_,.inr hc2,rfl,rfl,?_⟩;walk_at "sd")
 case num=>subst hg;exact ⟨few (by decide),fun p hp=>q p _ (.aj hp _) Yd⟩
 case here=>subst hg;exact ⟨few (by decide),fun p hp=>q p _ (.aj hp _) Yd⟩
 case when =>
  obtain ⟨b,v1,v2,v3,rfl,hb,rfl⟩:=hg;exact ⟨_,au.of ha,_,rfl,b,rfl,_,.inr (au.of hb),fun p hp=>q p _ (.aj hp _) Yd⟩
 all_goals first
  | (subst hg;exact ⟨_,au.of ha,_,rfl,few (by decide),fun p hp=>q p _ (.aj hp _) Yd⟩)
  | (obtain ⟨b,v1,v2,rfl,hb,rfl⟩:=hg;exact ⟨_,au.of ha,_,rfl,b,rfl,_,.inr (au.of hb),fun p hp=>q p _ (.aj hp _) Yd⟩)
theorem UA:∀ ks ks':List (Option Bool),PyData.eqvAll (ks.map qd) (ks'.map qd)=decide (ks=ks')
 | [],[]=>by simp [PyData.eqvAll]
 | [],_::_=>by simp [PyData.eqvAll]
 | _::_,[]=>by simp [PyData.eqvAll]
 | a::as,b::bs=>by
  rw [List.map_cons,List.map_cons,PyData.eqvAll,Yhu,UA as bs];by_cases h1:a=b<;>by_cases h2:as=bs<;>simp [h1,h2]
theorem QB (ks ks':List (Option Bool)):PyData.eqv (.tuple (ks.map qd)) (.tuple (ks'.map qd))=decide (ks=ks'):=by rw [PyData.eqv,UA]
theorem UV {K:W.Frag} {H:Hp}:∀ ks:List (Option Bool),aX K H (ks.map qv) (ks.map qd)
 | [] => .nil
 | k::ks => .cons (Yht k) (UV ks)
theorem Bk:∀ ks:List (Option Bool),PyData.depthAll (ks.map qd)<=1
 | []=>by simp [PyData.depthAll]
 | k::ks=>by
  have:=Bk ks;rw [List.map_cons,PyData.depthAll];rcases k with _ | _ | _<;>simp only [qd,PyData.depth]<;>omega
inductive K4 (K:W.Frag) (vs:List V) (H:Hp) (Q:VK) (E_:XK):Prop
 | mk (m:Mk) (t:Addr) (ks:List (Option Bool)) (h0:vs=[.str (ms m),.ref t]) (h1:H t=some (.tup (ks.map qv))) (h2:(m = .when->ks.length=3)) (h3:∀ H',Yj H H'->Q (qv (kb m ks)) H')
theorem qy (m a b:Mk):inV (.str (ms m)) [.str (ms a),.str (ms b)]=decide (m=a\/m=b):=by
 rw [UU,UU,KY,Bool.or_false];by_cases h1:m=a<;>by_cases h2:m=b<;>simp [h1,h2,eq_comm]
 all_goals (constructor<;>intro e<;>first | exact h1 e.symm | exact h2 e.symm | skip)
theorem K5 {m:Mk} {ks:List (Option Bool)} (h1:¬ (m = .num\/m = .here)) (h2:¬ ((m = .plus\/m = .times)/\ks=[some false,some false])) (h3:¬ ((m = .less\/m = .same)/\ks=[some false,some false])) (h4:¬ (m = .not/\ks=[some true])) (h5:¬ (m = .both/\ks=[some true,some true])) (h6:m = .when->∀ a b c,ks=[a,b,c]->¬ (a=some true/\b=c)):kb m ks=none:=by
 cases m<;>simp only [kb]<;>simp_all
 match ks with
 | []=>rfl
 | [_]=>rfl
 | [_,_]=>rfl
 | [a,b,c]=>exact if_neg fun z=>h6 a b c rfl z.1 z.2
 | _::_::_::_::_=>rfl
theorem Ydk {Z6 Z5 Z1 Z2 Z4 Z3 Z0:Addr} (R:g.Raw "kind_by" "kind_by" xQ ["mark","inner"]) (bB:g.iH "NUMBER" (.str "number")) (aV:g.iH "TRUTH" (.str "truth")) (iu:g.cj "TWO_NUMBERS" ([.str "number",.str "number"])) (iW:g.cj "TWO_TRUTHS" ([.str "truth",.str "truth"])):g.Fn (1) "kind_by" ["mark","inner"] (K4 g.K):=by
 refine R.fn Yc1 (fun vs H Q E h=>by obtain ⟨m,t,ks,rfl,ht,hw,q⟩:=h;rfl) fun f_ cdv A outer s H vs Q E hr h=>?_
 obtain ⟨m,t,ks,rfl,ht,hw,q⟩:=h;refine ⟨_,(@Ye _ _ _ _ _ (@Yy _ _ _ _ _ _ _ _ (@Yl _ _ _ _ _ _ _ _ Xt (pv 0) (@Yu _ _ _ _ _ (@Ya _ _ _ _ _ Yk (@Ya _ _ _ _ _ Yk Yb (by rfl)) (by rfl))) rfl) (@Yf _ _ _ (@Ym _ _ _ _ (@XB _ _ _ _ _ bB (by rfl) (by rfl) (by decide)))) Yq) (@Ye _ _ _ _ _ (@Yy _ _ _ _ _ _ _ _ (@XE _ _ _ _ _ _ _ (@Yl _ _ _ _ _ _ _ _ Xt (pv 0) (@Yu _ _ _ _ _ (@Ya _ _ _ _ _ Yk (@Ya _ _ _ _ _ Yk Yb (by rfl)) (by rfl))) rfl) (@XD _ _ _ _ (@Yl _ _ _ _ _ _ _ _ (Wu hr.units) (pv 1) (@W2 _ _ _ _ _ iu (by rfl) (by rfl) (by decide)) (Yn _)))).pt (@Yf _ _ _ (@Ym _ _ _ _ (@XB _ _ _ _ _ bB (by rfl) (by rfl) (by decide)))) Yq) (@Ye _ _ _ _ _ (@Yy _ _ _ _ _ _ _ _ (@XE _ _ _ _ _ _ _ (@Yl _ _ _ _ _ _ _ _ Xt (pv 0) (@Yu _ _ _ _ _ (@Ya _ _ _ _ _ Yk (@Ya _ _ _ _ _ Yk Yb (by rfl)) (by rfl))) rfl) (@XD _ _ _ _ (@Yl _ _ _ _ _ _ _ _ (Wu hr.units) (pv 1) (@W2 _ _ _ _ _ iu (by rfl) (by rfl) (by decide)) (Yn _)))).pt (@Yf _ _ _ (@Ym _ _ _ _ (@XB _ _ _ _ _ aV (by rfl) (by rfl) (by decide)))) Yq) (@Ye _ _ _ _ _ (@Yy _ _ _ _ _ _ _ _ (@XE _ _ _ _ _ _ _ (@Yl _ _ _ _ _ _ _ _ YC (pv 0) Yk (Yn _)) (@XD _ _ _ _ (@Yl _ _ _ _ _ _ _ _ (Wu hr.units) (pv 1) (@Yu _ _ _ _ _ (@Ya _ _ _ _ _ (@XB _ _ _ _ _ aV (by rfl) (by rfl) (by decide)) Yb (by rfl))) (Yn _)))).pt (@Yf _ _ _ (@Ym _ _ _ _ (@XB _ _ _ _ _ aV (by rfl) (by rfl) (by decide)))) Yq) (@Ye _ _ _ _ _ (@Yy _ _ _ _ _ _ _ _ (@XE _ _ _ _ _ _ _ (@Yl _ _ _ _ _ _ _ _ YC (pv 0) Yk (Yn _)) (@XD _ _ _ _ (@Yl _ _ _ _ _ _ _ _ (Wu hr.units) (pv 1) (@W2 _ _ _ _ _ iW (by rfl) (by rfl) (by decide)) (Yn _)))).pt (@Yf _ _ _ (@Ym _ _ _ _ (@XB _ _ _ _ _ aV (by rfl) (by rfl) (by decide)))) Yq) (@Ye _ _ _ _ _ (@Yy _ _ _ _ _ _ _ _ (@XE _ _ _ _ _ _ _ (@Yl _ _ _ _ _ _ _ _ YC (pv 0) Yk (Yn _)) (@XE _ _ _ _ _ _ _ (@Yl _ _ _ _ _ _ _ _ YC (@Yo _ _ _ _ _ _ _ Ys (pv 1) Yh (fun _ _=>rfl)) (@XB _ _ _ _ _ aV (by rfl) (by rfl) (by decide)) (Yn _)) (@XD _ _ _ _ (@Yl _ _ _ _ _ _ _ _ YC (@Yo _ _ _ _ _ _ _ Ys (pv 1) Yh (fun _ _=>rfl)) (@Yo _ _ _ _ _ _ _ Ys (pv 1) Yh (fun _ _=>rfl)) (Yn _))))).pt (@Yf _ _ _ (@Ym _ _ _ _ (@Yo _ _ _ _ _ _ _ Ys (pv 1) Yh (fun _ _=>rfl)))) Yq) (@Yf _ _ _ (@Ym _ _ _ _ X5)))))))),?_⟩;have dt:∀ {H':Hp},Yj H H'->Den g.K H' (.ref t) (.tuple (ks.map qd)):=fun s => .tup (au.of (s _ _ ht)) (UV ks)
 have vf:(PyData.tuple (ks.map qd)).depth<=64:=by rw [PyData.depth];have:=Bk ks;omega
 have dc:∀ {H':Hp} {c:Addr} (cs:List (Option Bool)),au g.K H' c (cs.map qv)->Den g.K H' (.ref c) (.tuple (cs.map qd)):=fun cs h => .tup h (UV cs)
 refine QQ (fun σ H'=>σ=[some (.str (ms m)),some (.ref t)]/\Yj H H'/\¬ (m = .num\/m = .here)) ?_ ?_
 rotate_left
 ·intro N hN
  walk_at "rd";walk_at "sd";refine ⟨few (by decide),fun p hp=>⟨_,.inr (au.of Yd),rfl,rfl,?_⟩⟩;rw [qy];refine Y6 (fun c=>?_) fun c=>hN _ _ ⟨rfl,.aj hp _,by simpa using c⟩
  have:=q _ (.aj hp (.tup [V.str (ms Mk.num),V.str (ms Mk.here)]));rw [show kb m ks=some false by rcases of_decide_eq_true c with rfl | rfl<;>rfl] at this
  exact this
 rintro σ H1 ⟨rfl,s1,h1⟩;refine QQ (fun σ H'=>σ=[some (.str (ms m)),some (.ref t)]/\Yj H H'/\¬ ((m = .plus\/m = .times)/\ks=[some false,some false])) ?_ ?_
 rotate_left
 ·intro N hN
  walk_at "rd";walk_at "sd";refine ⟨few (by decide),fun p hp=>⟨_,.inr (au.of Yd),rfl,rfl,?_⟩⟩;have s2:=s1.trans (.aj hp (.tup [V.str (ms Mk.plus),V.str (ms Mk.times)]));rw [qy];refine Y6 (fun c=>fun b hb=>⟨_,dt s2,_,dc [some false,some false] hb,vf,?_⟩) fun c=>hN _ _ ⟨rfl,s2,fun z=>by simp [z.1] at c⟩
  rw [QB];refine Y6 (fun c2=>?_) fun c2=>hN _ _ ⟨rfl,s2,fun z=>by simp [z.2] at c2⟩
  have:=q _ s2;rw [show kb m ks=some false by rw [of_decide_eq_true c2];rcases of_decide_eq_true c with rfl | rfl<;>rfl] at this
  exact this
 rintro σ H1 ⟨rfl,s1,h2⟩;refine QQ (fun σ H'=>σ=[some (.str (ms m)),some (.ref t)]/\Yj H H'/\¬ ((m = .less\/m = .same)/\ks=[some false,some false])) ?_ ?_
 rotate_left
 ·intro N hN
  walk_at "rd";walk_at "sd";refine ⟨few (by decide),fun p hp=>⟨_,.inr (au.of Yd),rfl,rfl,?_⟩⟩;have s2:=s1.trans (.aj hp (.tup [V.str (ms Mk.less),V.str (ms Mk.same)]));rw [qy];refine Y6 (fun c=>fun b hb=>⟨_,dt s2,_,dc [some false,some false] hb,vf,?_⟩) fun c=>hN _ _ ⟨rfl,s2,fun z=>by simp [z.1] at c⟩
  rw [QB];refine Y6 (fun c2=>?_) fun c2=>hN _ _ ⟨rfl,s2,fun z=>by simp [z.2] at c2⟩
  have:=q _ s2;rw [show kb m ks=some true by rw [of_decide_eq_true c2];rcases of_decide_eq_true c with rfl | rfl<;>rfl] at this
  exact this
 rintro σ H1 ⟨rfl,s1,h3⟩;refine QQ (fun σ H'=>σ=[some (.str (ms m)),some (.ref t)]/\Yj H H'/\¬ (m = .not/\ks=[some true])) ?_ ?_
 rotate_left
 ·intro N hN
  walk_at "rd";walk_at "sd";refine Y6 (fun c=>⟨few (by decide),fun p hp=>?_⟩) fun c=>hN _ _ ⟨rfl,s1,fun z=>c z.1⟩
  have s2:=s1.trans (.aj hp (.tup [V.str (Str.ofString "truth")]));refine ⟨_,dt s2,_,dc [some true] (au.of Yd),vf,?_⟩;rw [QB];refine Y6 (fun c2=>?_) fun c2=>hN _ _ ⟨rfl,s2,fun z=>by simp [z.2] at c2⟩
  have:=q _ s2;rw [show kb m ks=some true by rw [of_decide_eq_true c2,c];rfl] at this
  exact this
 rintro σ H1 ⟨rfl,s1,h4⟩;refine QQ (fun σ H'=>σ=[some (.str (ms m)),some (.ref t)]/\Yj H H'/\¬ (m = .both/\ks=[some true,some true])) ?_ ?_
 rotate_left
 ·intro N hN
  walk_at "rd";walk_at "sd";refine Y6 (fun c=>fun b hb=>⟨_,dt s1,_,dc [some true,some true] hb,vf,?_⟩) fun c=>hN _ _ ⟨rfl,s1,fun z=>c z.1⟩
  rw [QB];refine Y6 (fun c2=>?_) fun c2=>hN _ _ ⟨rfl,s1,fun z=>by simp [z.2] at c2⟩
  have:=q _ s1;rw [show kb m ks=some true by rw [of_decide_eq_true c2,c];rfl] at this
  exact this
 rintro σ H1 ⟨rfl,s1,h5⟩;walk_at "rd";walk_at "sd";have ht1:=s1 _ _ ht;have non:(∀ a b c,m = .when->ks=[a,b,c]->¬ (a=some true/\b=c))->Q V.non H1:=fun h6=>by
  have:=q _ s1;rw [K5 h1 h2 h3 h4 h5 fun z a b c e=>h6 a b c z e] at this
  exact this
 refine Y6 (fun c=>?_) fun c=>non fun _ _ _ z=>(c z).elim
 obtain ⟨k1,k2,k3,rfl⟩:∃ a b c,ks=[a,b,c]:=by
  match ks,hw c with
  | [a,b,c],_=>exact ⟨a,b,c,rfl⟩
 refine ⟨_,au.of ht1,_,rfl,?_,?_⟩
 ·rcases k1 with _ | _ | _<;>rfl
 rw [KZ];simp only [Vk];refine Y6 (fun c1=>⟨_,au.of ht1,_,rfl,_,au.of ht1,_,rfl,?_,?_⟩) fun c1=>non fun a b d _ e z=>by cases e;exact c1 z.1
 ·rcases k2 with _ | _ | _<;>rcases k3 with _ | _ | _<;>rfl
 simp only [Vk];refine Y6 (fun c2=>⟨_,au.of ht1,_,rfl,?_⟩) fun c2=>non fun a b d _ e z=>by cases e;exact c2 z.2
 have:=q _ s1;rw [c,show kb .when [k1,k2,k3]=k2 from if_pos ⟨c1,c2⟩] at this
 exact this
inductive vg (K:W.Frag) (m:Nat) (vs:List V) (H:Hp) (Q:VK) (E_:XK):Prop
 | mk (v:V) (x:Tm) (h0:vs=[v]) (h1:Vt H v (td x)) (h2:cZ x) (h3:bf x<=m) (h4:∀ H',Yj H H'->Q (qv (kn x)) H')
theorem Wj (x:Tm):1<=bf x:=by cases x<;>simp only [bf]<;>omega
theorem YgE {K:W.Frag} {vs:List V} {H:Hp} {Q:VK} {E:XK} (h:vg K 0 vs H Q E):False:=by
 obtain ⟨v,x,_,_,_,h,_⟩:=h;have:=Wj x;omega
theorem gw {k:Nat} {Z6 Z5 Z1 Z2 Z4 Z3 Z0:Addr} (R:g.Raw "kind_of" "kind_of" xR ["term"]) (iZ:g.Fn k "inner_terms" ["term"] (K3 g.K)) (qz:g.Fn k "kind_by" ["mark","inner"] (K4 g.K)) (Bl:g.Fn k "kind_of" ["term"] (vg g.K m)) (Zv:g.mg "tuple"=none):g.Fn (k+1) "kind_of" ["term"] (vg g.K (m+1)):=by
 refine R.fn Yc2 (fun vs H Q E h=>by obtain ⟨v,x,rfl,hv,hok,hdp,q⟩:=h;rfl) fun f_ cdv A outer s H vs Q E hr h=>?_
 obtain ⟨v,x,rfl,hv,hok,hdp,q⟩:=h;refine ⟨_,(@Yf _ _ _ (@Ym _ _ _ _ (@YA _ _ _ _ _ _ _ _ _ _ _ _ qz hr (@Ya _ _ _ _ _ (@Yo _ _ _ _ _ _ _ Ys (pv 0) Yh (fun _ _=>rfl)) (@Ya _ _ _ _ _ (@Vz _ _ _ _ _ _ _ _ _ _ Zv X9 (@Ya _ _ _ _ _ (@X2 _ _ _ _ _ _ _ ([none]) ((["inner"]:List Str)) _ (YG 0) _ _ (.own .nil) rfl (@Xo _ _ _ _ (@YA _ _ _ _ _ _ _ _ _ _ _ _ iZ hr (@Ya _ _ _ _ _ (pv 0) Yb (by rfl)) (by omega) (by rfl) (by rfl) (by decide) (by rfl) (by rfl))) (fun cl C s₀ H₀ fp pn=>(@YK _ _ (0) _ (show List.Nodup (["inner"]:List Str) by decide +kernel) rfl (.inl rfl) (.inr rfl))) (fun cl C s₀ H₀ fp pn=>Xc) (fun cl C s₀ H₀ fp pn=>(@YA _ _ _ _ _ _ _ _ _ _ _ _ Bl hr (@Ya _ _ _ _ _ (pv 0) Yb (by rfl)) (by omega) (by rfl) (by rfl) (by decide) (by rfl) (by rfl))) (by intro x hx;simp at hx) (by rfl) (by decide) (by decide +kernel) (by intro _;rfl)) Yb (by rfl)) (by decide +kernel) (by rfl) (by rfl) (by decide) (by decide) (by rfl) (by rfl)) Yb (by rfl)) (by rfl)) (by omega) (by rfl) (by rfl) (by decide) (by rfl) (by rfl)))),?_⟩;obtain ⟨a,r,us,rfl,ha,hg,hl,hin⟩:=Bj hok hv;have h3:(inn x).length<=3:=by cases x<;>simp [inn]
 walk_at "rd";refine ⟨_,au.of ha,_,rfl,?_⟩;refine VC (K:=g.K) (xs:=us) ((inn x).map fun y=>qv (kn y)) (fun R rr=>by walk_at "rd";exact ⟨a,bG x,r,us,rfl,ha,hg,fun L H' s' hL=>rr L H' s' (ao.of hL)⟩) (by rw [List.length_map,hl]) (by omega) ?_ ?_
 ·intro i v y H' hv hy sm' R rr
  rw [List.getElem?_map] at hy
  obtain ⟨z,hz,rfl⟩:=Option.map_eq_some_iff.mp hy;have hm:=List.mem_of_getElem? hz;have:=Q4 hm;walk_at "rd";exact ⟨v,z,rfl,(hin i v z hv hz).same sm',Q5 hok hm,by omega,fun aK s''=>rr aK s''⟩
 ·intro D H1 hD s1 hd
  refine ⟨D,rfl,_,.inl ⟨ao.of hd,fun l hl'=>⟨bG x,l,(inn x).map kn,rfl,by rw [Yd,List.map_map];rfl,fun e=>?_,fun H2 s2=>?_⟩⟩⟩
  ·rw [List.length_map]
   cases x<;>simp only [bG] at e
   ·cases e
   ·cases e
   ·subst e;exact absurd hok.1 (by decide)
   ·cases e
   ·rfl
  ·rw [<- K1]
   exact q H2 ((s1.trans (.aj hl' _)).trans s2)
def nT:List Nat:=[116,101,114,109]
def nN:List Nat:=[110,117,109,98,101,114]
def nR:List Nat:=[116,114,117,116,104]
theorem vh:Str.ofString "term"=S nT:=by decide +kernel
theorem Bm:Str.ofString "number"=S nN:=by decide +kernel
theorem Bo:Str.ofString "truth"=S nR:=by decide +kernel
def mc:Mk->List Nat
 | .num=>[110,117,109] | .here=>[104,101,114,101] | .plus=>[112,108,117,115] | .times=>[116,105,109,101,115] | .less=>[108,101,115,115]
 | .same=>[115,97,109,101] | .not=>[110,111,116] | .both=>[98,111,116,104] | .when=>[119,104,101,110] | _=>[]
theorem vm {m:Mk} (h:mc m≠[]):ms m=S (mc m):=by cases m<;>first | decide +kernel | exact absurd rfl h
inductive iw (K:W.Frag) (vs:List V) (H:Hp) (Q:VK) (E_:XK):Prop
 | mk (c:Addr) (xs:List (List Nat)) (h0:vs=[.ref c]) (h1:au K H c (xs.map fun x=>V.str (S x))) (h2:xs.length<=3) (h3:(∀ x∈xs,PyData.strOk (S x)=true)) (h4:∀ a H',Yj H H'->Den K H' (.ref a) (kd (.row (xs.map Sh.use)))->Q (.ref a) H')
theorem K6 {K:W.Frag} {H:Hp}:∀ {xs:List (List Nat)} {as:List Addr},as.length=xs.length->(∀ (j:Nat) a x,as[j]?=some a->xs[j]?=some x->H a=some (.tup [.str "use",.str (S x)]))->(∀ x∈xs,PyData.strOk (S x)=true)->aX K H (as.map V.ref) (bQ (xs.map Sh.use))
 | [],[],_,_,_=>by rw [List.map_nil,List.map_nil,bQ];exact .nil
 | x::xs,a::as,hl,h,hs=>by
  rw [List.map_cons,List.map_cons,bQ,kd];exact .cons (.tup (au.of (h 0 a x rfl rfl)) (.cons (.str _ (by decide +kernel)) (.cons (.str _ (hs x (.head _))) .nil))) (K6 (Nat.succ.inj hl) (fun j a x e1 e2=>h (j+1) a x (by simpa using e1) (by simpa using e2)) fun x hx=>hs x (.tail _ hx))
theorem Z5v {Z6 Z5 Z1 Z2 Z4 Z3 Z0:Addr} (R:g.Raw "row_of_uses" "row_of_uses" xT ["names"]) (Zv:g.mg "tuple"=none):g.Fn (1) "row_of_uses" ["names"] (iw g.K):=by
 refine R.fn Z5r (fun vs H Q E h=>by obtain ⟨c,xs,rfl,hc,hl,hs,q⟩:=h;rfl) fun f_ cdv A outer s H vs Q E hr h=>?_
 obtain ⟨c,xs,rfl,hc,hl,hs,q⟩:=h;refine ⟨_,(@Yf _ _ _ (@Ym _ _ _ _ (@Yu _ _ _ _ _ (@Ya _ _ _ _ _ Yk (@Ya _ _ _ _ _ (@Vz _ _ _ _ _ _ _ _ _ _ Zv X9 (@Ya _ _ _ _ _ (@X2 _ _ _ _ _ _ _ ([none]) ((["name"]:List Str)) _ (YG 0) _ _ (.own .nil) rfl (@Qk _ _ _ _ (pv 0)) (fun cl C s₀ H₀ fp pn=>(@YK _ _ (0) _ (show List.Nodup (["name"]:List Str) by decide +kernel) rfl (.inl rfl) (.inr rfl))) (fun cl C s₀ H₀ fp pn=>Xc) (fun cl C s₀ H₀ fp pn=>(@Yu _ _ _ _ _ (@Ya _ _ _ _ _ Yk (@Ya _ _ _ _ _ (pv 0) Yb (by rfl)) (by rfl)))) (by intro x hx;simp at hx) (by rfl) (by decide) (by decide +kernel) (by intro _;rfl)) Yb (by rfl)) (by decide +kernel) (by rfl) (by rfl) (by decide) (by decide) (by rfl) (by rfl)) Yb (by rfl)) (by rfl))))),?_⟩;walk_at "rd";refine Yd8 (K:=g.K) (xs:=xs.map fun x=>V.str (S x)) (xs.map fun x=>[V.str "use",V.str (S x)]) (fun R r=>by walk_at "rd";exact r c H (.refl H) hc) (by simp) (by simp;omega) ?_ ?_
 ·intro i x t H' hx ht sm R r
  rw [List.getElem?_map] at hx ht
  obtain ⟨y,hy,rfl⟩:=Option.map_eq_some_iff.mp hx;rw [hy] at ht
  cases Option.some.inj ht
  walk_at "rd";exact ⟨few (by decide),fun p hp=>r p _ (.aj hp _) Yd⟩
 ·intro D as H' hD sm hd hal hat
  rw [List.length_map] at hal
  refine ⟨D,rfl,_,.inl ⟨ao.of hd,fun X gX=>⟨few (by decide),fun Y gY=>?_⟩⟩⟩;have sX:=Yj.aj gX (.tup (as.map V.ref));have sY:=Yj.aj gY (.tup [.str "row",.ref X]);refine q Y _ ((sm.trans sX).trans sY) ?_;rw [kd];exact .tup (au.of Yd) (.cons (.str _ (by decide +kernel)) (.cons (.tup (au.of (sY _ _ Yd)) (K6 hal (fun j a x e1 e2=>sY _ _ (sX _ _ (hat j a _ e1 (by rw [List.getElem?_map,e2];rfl)))) hs)) .nil))
inductive iB (K:W.Frag) (vs:List V) (H:Hp) (Q:VK) (E_:XK):Prop
 | mk (h:Nat) (h0:vs=[.int (h:Nat)]) (h1:∀ a H',Yj H H'->Den K H' (.ref a) (.tuple [.str (S (mc .num)),kd (.w 0 h)])->Q (.ref a) H')
theorem Yau {Z6 Z5 Z1 Z2 Z4 Z3 Z0:Addr} (R:g.Raw "num_branch" "num_branch" xU ["high"]):g.Fn (1) "num_branch" ["high"] (iB g.K):=by
 refine R.fn Yas (fun vs H Q E h=>by obtain ⟨h,rfl,q⟩:=h;rfl) fun f_ cdv A outer s H vs Q E hr h=>?_
 obtain ⟨h,rfl,q⟩:=h;refine ⟨_,(@Yf _ _ _ (@Ym _ _ _ _ (@Yu _ _ _ _ _ (@Ya _ _ _ _ _ Yk (@Ya _ _ _ _ _ (@Yu _ _ _ _ _ (@Ya _ _ _ _ _ Yk (@Ya _ _ _ _ _ Yh (@Ya _ _ _ _ _ (pv 0) Yb (by rfl)) (by rfl)) (by rfl))) Yb (Yw _ _ _ _ _)) (by rfl))))),?_⟩;walk_at "rd";refine ⟨few (by decide),fun X gX=>⟨few (by decide),fun Y gY=>q Y _ ((Yj.aj gX _).trans (.aj gY _)) ?_⟩⟩;rw [kd,Int.zero_add];exact .tup (au.of Yd) (.cons (.str _ (by decide +kernel)) (.cons (.tup (au.of ((Yj.aj gY _) _ _ Yd)) (.cons (.str _ (by decide +kernel)) (.cons (.int _) (.cons (.int _) .nil)))) .nil))
def QC (K:W.Frag):Sp:=fun vs H Q _=>vs=[]/\∀ a H',Yj H H'->Den K H' (.ref a) (.tuple [.str (S (mc .here)),kd (.row [])])->Q (.ref a) H'
def DE (K:W.Frag) (t:TE) (σ:St) (H:Hp) (d:PyData):Prop:=∀ H1 Q,Yj H H1->(∀ v H',Yj H1 H'->Den K H' v d->Q v H')->t σ H1 Q
def DA (K:W.Frag) (t:TA) (σ:St) (H:Hp) (ds:List PyData):Prop:=∀ H1 Q,Yj H H1->(∀ vs H',Yj H1 H'->aX K H' vs ds->Q vs H')->t σ H1 Q
section
variable {K:W.Frag} {σ:St} {H:Hp} {d:PyData} {ds:List PyData} {t:TE} {u:TA}
theorem Bp {x:Str} (h:PyData.strOk x=true:=by decide +kernel):DE K (tC (.str x)) σ H (.str x):=fun H1 Q _ q=>q _ _ (.refl _) (.str _ h)
theorem Vl {i:Nat} {v:V} (h:σ[i]?=some (some v)) (hd:Den K H v d):DE K (XN i) σ H d:=fun H1 Q s q=>tL h (q _ _ (.refl _) (hd.keep s))
theorem Vm:DA K XF σ H []:=fun H1 Q s q=>q _ _ (.refl _) .nil
theorem YT (h1:DE K t σ H d) (h2:DA K u σ H ds):DA K (Xr t u) σ H (d::ds):=fun H1 Q s q=>h1 H1 _ s fun v H2 s2 hv=>h2 H2 _ (s.trans s2) fun vs H3 s3 hvs=>q _ _ (s2.trans s3) (.cons (hv.keep s3) hvs)
theorem UB (h:DA K u σ H ds) (hl:ds.length<=100:=by decide):DE K (V8 u) σ H (.tuple ds):=fun H1 Q s q=>h H1 _ s fun vs H2 s2 hvs=>by
 have hlen:vs.length<=100:=by rw [hvs.length];exact hl
 exact ⟨few (by omega),fun p hp=>q _ _ (s2.trans (.aj hp _)) (.tup (au.of Yd) (hvs.keep (.aj hp _)))⟩
theorem WW (h:DE K t σ H d) {x:Str} (hx:PyData.strOk x=true:=by decide +kernel):DE K (V8 (Xr (tC (.str x)) (Xr t XF))) σ H (.tuple [.str x,d]):=UB (YT (Bp hx) (YT h Vm)) (by simp)
theorem VW {x y:Str} (e:y=x) (h:DE K t σ H d) (hx:PyData.strOk x=true:=by decide +kernel):DE K (V8 (Xr (tC (.str y)) (Xr t XF))) σ H (.tuple [.str x,d]):=by subst e;exact WW h hx
theorem K7 {Q:VK} (h:DA K u σ H ds) (q:∀ vs B H1 H',Yj H H1->H1 B=none->H'=upd H1 B (.lst vs)->aX K H1 vs ds->Q (.ref B) H') (hl:ds.length<=100:=by decide):ud u σ H Q:=h H _ (.refl H) fun vs H2 s2 hvs=>by
 have hlen:vs.length<=100:=by rw [hvs.length];exact hl
 exact ⟨few (by omega),fun p hp=>q vs p H2 _ s2 hp rfl hvs⟩
end
theorem Z5w {Z6 Z5 Z1 Z2 Z4 Z3 Z0:Addr} (R:g.Raw "here_branch" "here_branch" xV []):g.Fn (1) "here_branch" [] (QC g.K):=by
 refine R.fn Z5s (fun vs H Q E h=>by obtain ⟨rfl,q⟩:=h;rfl) fun f_ cdv A outer s H vs Q E hr h=>?_
 obtain ⟨rfl,q⟩:=h;refine ⟨_,(@Yf _ _ _ (@Ym _ _ _ _ (@Yu _ _ _ _ _ (@Ya _ _ _ _ _ Yk (@Ya _ _ _ _ _ (@Yu _ _ _ _ _ (@Ya _ _ _ _ _ Yk (@Ya _ _ _ _ _ (@Yu _ _ _ _ _ Yb) Yb (Yw _ _ _ _ _)) (by rfl))) Yb (Yw _ _ _ _ _)) (by rfl))))),?_⟩;have e:PyData.tuple [.str (S (mc .here)),kd (.row [])] = .tuple [.str (Str.ofString "here"),.tuple [.str (Str.ofString "row"),.tuple []]]:=by
  rw [kd,bQ,<- vm (by decide)];rfl
 refine (WW (K:=g.K) (WW (UB Vm))) H _ (.refl H) fun v H' s hv=>?_
 obtain ⟨a,vs,rfl,_⟩:=Xe hv;exact q a H' s (by rw [e];exact hv)
def vo:List Mk:=[.num,.here,.plus,.times,.less,.same,.not,.both,.when]
def two (x:List Nat):Sh := .row [.use x,.use x]
def Wc (h:Nat):Sh := .pick (vo.map mc) [.w 0 h,.row [],two nT,two nT,two nT,two nT,.use nT,two nT,.row [.use nT,.use nT,.use nT]]
def YX (h:Nat):aL:=[(nT,Wc h)]
theorem Q6 (mk:List (List Nat)) (ps:List Sh):kd (.pick mk ps) = .tuple [.str "pick",.tuple (kdp mk ps)]:=by rw [kd]
theorem K8 (h:Nat):kd (Wc h) = .tuple [.str "pick",.tuple [.tuple [.str (S (mc .num)),kd (.w 0 h)],.tuple [.str (S (mc .here)),kd (.row [])],.tuple [.str (S (mc .plus)),kd (two nT)],.tuple [.str (S (mc .times)),kd (two nT)],.tuple [.str (S (mc .less)),kd (two nT)],.tuple [.str (S (mc .same)),kd (two nT)],.tuple [.str (S (mc .not)),kd (.use nT)],.tuple [.str (S (mc .both)),kd (two nT)],.tuple [.str (S (mc .when)),kd (.row [.use nT,.use nT,.use nT])]]]:=by
 rw [Wc,Q6];simp only [vo,List.map_cons,List.map_nil,kdp]
theorem Yhv (h:Nat):(kd (Wc h)).depth<=8:=by
 rw [K8];simp only [two,kd,bQ,PyData.depth,PyData.depthAll]
 decide
theorem Q7 {K:W.Frag} {H:Hp} {v:V} {x:List Nat} {sh:Sh} (h:Den K H v (.tuple [.str (S x),kd sh])) (hd:(kd sh).depth<=8):∃ T a,v = .ref T/\au K H T [.str (S x),.ref a]/\DK K H a (kd sh):=by
 obtain ⟨T,vs,rfl,_⟩:=Xe h;obtain ⟨u,h1,h2⟩:=VG h;have h2':=h2;obtain ⟨a,rfl⟩:∃ a,u = .ref a:=by
  cases sh<;>(rw [kd] at h2';obtain ⟨a,_,e,_⟩:=Xe h2';exact ⟨a,e⟩)
 exact ⟨T,a,rfl,h1,h2,UR _,hd⟩
inductive qC (K:W.Frag) (vs:List V) (H:Hp) (Q:VK) (E_:XK):Prop
 | mk (h:Nat) (h0:vs=[.int (h:Nat)]) (h1:∀ B H',Yj H H'->Xy K H' B (YX h)->Q (.ref B) H')
theorem WK:PyData.strOk (S nT)=true:=by decide +kernel
theorem UW:PyData.strOk (S nN)=true:=by decide +kernel
theorem VD:PyData.strOk (S nR)=true:=by decide +kernel
theorem UC {P:List Nat->Prop} {x y z:List Nat} (h1:P x) (h2:P y) (h3:P z):∀ w∈[x,y,z],P w:=fun w hw=>by
 rcases List.mem_cons.mp hw with rfl | hw
 ·exact h1
 rcases List.mem_cons.mp hw with rfl | hw
 ·exact h2
 rw [List.mem_singleton.mp hw];exact h3
theorem VX {K:W.Frag} {σ:St} {H:Hp} {ta:TA} {xs:List (List Nat)} (ha:∀ H1 Q,Yj H H1->(∀ c H',Yj H1 H'->au K H' c (xs.map fun x=>V.str (S x))->Q [.ref c] H')->ta σ H1 Q) (hl:xs.length<=3) (hs:∀ x∈xs,PyData.strOk (S x)=true):DE K (XS (iw K) [] E0 ta) σ H (kd (.row (xs.map Sh.use))):=fun H1 Q s q=>ha H1 _ s fun c H' s' hc=>⟨c,xs,rfl,hc,hl,hs,fun a H2 s2 hd=>q _ _ (s'.trans s2) hd⟩
theorem QD {K:W.Frag} {σ:St} {H:Hp} {u:TA} {vs:List V} (h:∀ H1 Q,Q vs H1->u σ H1 Q) (hl:vs.length<=100:=by decide):∀ H1 Q,Yj H H1->(∀ c H',Yj H1 H'->au K H' c vs->Q [.ref c] H')->Xr (V8 u) XF σ H1 Q:=fun H1 Q s q=>h H1 _ ⟨few (by omega),fun p hp=>q p _ (.aj hp _) (au.of Yd)⟩
theorem YbK {k:Nat} {Z6 Z5 Z1 Z2 Z4 Z3 Z0:Addr} (R:g.Raw "raw_book" "raw_book" xW ["high"]) (jM:g.Fn k "row_of_uses" ["names"] (iw g.K)) (Bq:g.Fn k "num_branch" ["high"] (iB g.K)) (Br:g.Fn k "here_branch" [] (QC g.K)):g.Fn (k+1) "raw_book" ["high"] (qC g.K):=by
 refine R.fn uQ (fun vs H Q E h=>by obtain ⟨h,rfl,q⟩:=h;rfl) fun f_ cdv A outer s H vs Q E hr h=>?_
 obtain ⟨h,rfl,q⟩:=h;refine ⟨_,(@Ye _ _ _ _ _ (@Yz _ _ (1) _ _ _ _ uQ.nd rfl (.inl rfl) (@YA _ _ _ _ _ _ _ _ _ _ _ _ jM hr (@Ya _ _ _ _ _ (@Yu _ _ _ _ _ (@Ya _ _ _ _ _ Yk (@Ya _ _ _ _ _ Yk Yb (by rfl)) (by rfl))) Yb (Yw _ _ _ _ _)) (by omega) (by rfl) (by rfl) (by decide) (by rfl) (by rfl)) (by rfl) (by first | exact .inl rfl | exact .inr rfl | assumption)) (@Ye _ _ _ _ _ (@Yz _ _ (2) _ _ _ _ uQ.nd rfl (.inl rfl) (@YA _ _ _ _ _ _ _ _ _ _ _ _ jM hr (@Ya _ _ _ _ _ (@Yu _ _ _ _ _ (@Ya _ _ _ _ _ Yk (@Ya _ _ _ _ _ Yk (@Ya _ _ _ _ _ Yk Yb (by rfl)) (by rfl)) (by rfl))) Yb (Yw _ _ _ _ _)) (by omega) (by rfl) (by rfl) (by decide) (by rfl) (by rfl)) (by rfl) (by first | exact .inl rfl | exact .inr rfl | assumption)) (@Ye _ _ _ _ _ (@Yz _ _ (3) _ _ _ _ uQ.nd rfl (.inl rfl) (@Yu _ _ _ _ _ (@Ya _ _ _ _ _ (@YA _ _ _ _ _ _ _ _ _ _ _ _ Bq hr (@Ya _ _ _ _ _ (pv 0) Yb (by rfl)) (by omega) (by rfl) (by rfl) (by decide) (by rfl) (by rfl)) (@Ya _ _ _ _ _ (@Hv _ _ _ _ _ _ _ _ _ Br hr (by omega) (by rfl) (by rfl) (by decide)) (@Ya _ _ _ _ _ (@Yu _ _ _ _ _ (@Ya _ _ _ _ _ Yk (@Ya _ _ _ _ _ (pv 1) Yb (by rfl)) (by rfl))) (@Ya _ _ _ _ _ (@Yu _ _ _ _ _ (@Ya _ _ _ _ _ Yk (@Ya _ _ _ _ _ (pv 1) Yb (by rfl)) (by rfl))) (@Ya _ _ _ _ _ (@Yu _ _ _ _ _ (@Ya _ _ _ _ _ Yk (@Ya _ _ _ _ _ (pv 1) Yb (by rfl)) (by rfl))) (@Ya _ _ _ _ _ (@Yu _ _ _ _ _ (@Ya _ _ _ _ _ Yk (@Ya _ _ _ _ _ (pv 1) Yb (by rfl)) (by rfl))) (@Ya _ _ _ _ _ (@Yu _ _ _ _ _ (@Ya _ _ _ _ _ Yk (@Ya _ _ _ _ _ (@Yu _ _ _ _ _ (@Ya _ _ _ _ _ Yk (@Ya _ _ _ _ _ Yk Yb (by rfl)) (by rfl))) Yb (Yw _ _ _ _ _)) (by rfl))) (@Ya _ _ _ _ _ (@Yu _ _ _ _ _ (@Ya _ _ _ _ _ Yk (@Ya _ _ _ _ _ (pv 1) Yb (by rfl)) (by rfl))) (@Ya _ _ _ _ _ (@Yu _ _ _ _ _ (@Ya _ _ _ _ _ Yk (@Ya _ _ _ _ _ (pv 2) Yb (by rfl)) (by rfl))) Yb (Yw _ _ _ _ _)) (Yw _ _ _ _ _)) (Yw _ _ _ _ _)) (Yw _ _ _ _ _)) (Yw _ _ _ _ _)) (Yw _ _ _ _ _)) (Yw _ _ _ _ _)) (by rfl)) (by rfl))) (by rfl) (by first | exact .inl rfl | exact .inr rfl | assumption)) (@Yf _ _ _ (@Ym _ _ _ _ (@Y5 _ _ _ _ (@Ya _ _ _ _ _ (@Yu _ _ _ _ _ (@Ya _ _ _ _ _ Yk (@Ya _ _ _ _ _ (@Yu _ _ _ _ _ (@Ya _ _ _ _ _ Yk (@Ya _ _ _ _ _ (pv 3) Yb (by rfl)) (by rfl))) Yb (Yw _ _ _ _ _)) (by rfl))) Yb (Yw _ _ _ _ _)))))))),?_⟩;refine Yv fun R rr=>?_
 refine VX (K:=g.K) (xs:=[nT,nT]) (QD fun H1 Q h=>h) (by decide) (fun x hx=>?_) H _ (.refl H) fun v2 H1 s1 d2=>rr _ _ (Yv fun R rr=>?_)
 ·exact UC (P:=fun x=>PyData.strOk (S x)=true) WK WK WK x (.tail _ hx)
 refine VX (K:=g.K) (xs:=[nT,nT,nT]) (QD fun H1 Q h=>h) (by decide) (UC (P:=fun x=>PyData.strOk (S x)=true) WK WK WK) H1 _ (.refl H1) fun v3 H2 s2 d3=>rr _ _ (Yv fun R rr=>?_)
 have d2':=d2.keep s2;have dn:DE g.K (XS (iB g.K) [] E0 (Xr (XN 0) XF)) [some (.int h),some v2,some v3,none] H2 (.tuple [.str (S (mc .num)),kd (.w 0 h)]):=fun H1 Q s q=>⟨h,rfl,fun a H' s' hd=>q _ _ s' hd⟩
 have dh:DE g.K (XS (QC g.K) [] E0 XF) [some (.int h),some v2,some v3,none] H2 (.tuple [.str (S (mc .here)),kd (.row [])]):=fun H1 Q s q=>⟨rfl,fun a H' s' hd=>q _ _ s' hd⟩
 have qD:DE g.K (XN 1) [some (.int h),some v2,some v3,none] H2 (kd (two nT)):=Vl rfl d2';have v3':DE g.K (XN 2) [some (.int h),some v2,some v3,none] H2 (kd (.row [.use nT,.use nT,.use nT])):=Vl rfl d3;have du:DE g.K (V8 (Xr (tC (.str "use")) (Xr (tC (.str "term")) XF))) [some (.int h),some v2,some v3,none] H2 (kd (.use nT)):=by rw [kd];exact WW (x:="use") Bp
 have mk2:=fun {m:Mk} {e:TE} {d:PyData} (hm:mc m≠[]) (hs:PyData.strOk (S (mc m))=true) (h:DE g.K e [some (.int h),some v2,some v3,none] H2 d)=>VW (vm hm) h hs
 refine (UB (YT dn (YT dh (YT (mk2 (m := .plus) (by decide) (by decide +kernel) qD) (YT (mk2 (m := .times) (by decide) (by decide +kernel) qD) (YT (mk2 (m := .less) (by decide) (by decide +kernel) qD) (YT (mk2 (m := .same) (by decide) (by decide +kernel) qD) (YT (mk2 (m := .not) (by decide) (by decide +kernel) du) (YT (mk2 (m := .both) (by decide) (by decide +kernel) qD) (YT (mk2 (m := .when) (by decide) (by decide +kernel) v3') Vm))))))))) (by simp)) H2 _ (.refl H2) fun vb H3 s3 db=>rr _ _ ?_
 have dv:DE g.K (XN 3) [some (.int h),some v2,some v3,some vb] H3 _:=Vl rfl db;have dq:=VW (d:=kd (Wc h)) vh (by rw [K8];exact WW dv) WK;refine K7 (YT dq Vm) (fun vs B H4 H5 s4 gB e5 hvs=>?_) (by simp);subst e5;obtain ⟨v,r,rfl,hv,h0⟩:=YY hvs
 cases XU h0
 refine q B _ ((((s1.trans s2).trans s3).trans s4).trans (.aj gB _)) ⟨[v],Yd,rfl,fun i v' q' h1 h2=>?_⟩
 cases i with
 | zero =>
  cases Option.some.inj h1
  cases Option.some.inj h2
  exact Q7 (hv.keep (.aj gB _)) (Yhv h)
 | succ i=>cases h1
def XX (h:Nat):Sh := .pick [mc .num,mc .here,mc .plus,mc .times,mc .when] [.w 0 h,.row [],two nN,two nN,.row [.use nR,.use nN,.use nN]]
def XY:Sh := .pick [mc .less,mc .same,mc .not,mc .both,mc .when] [two nN,two nN,.use nR,two nR,.row [.use nR,.use nR,.use nR]]
def Y8 (h:Nat):aL:=[(nN,XX h),(nR,XY)]
theorem K9 (h:Nat):kd (XX h) = .tuple [.str "pick",.tuple [.tuple [.str (S (mc .num)),kd (.w 0 h)],.tuple [.str (S (mc .here)),kd (.row [])],.tuple [.str (S (mc .plus)),kd (two nN)],.tuple [.str (S (mc .times)),kd (two nN)],.tuple [.str (S (mc .when)),kd (.row [.use nR,.use nN,.use nN])]]]:=by
 rw [XX,Q6];simp only [kdp]
theorem La:kd XY = .tuple [.str "pick",.tuple [.tuple [.str (S (mc .less)),kd (two nN)],.tuple [.str (S (mc .same)),kd (two nN)],.tuple [.str (S (mc .not)),kd (.use nR)],.tuple [.str (S (mc .both)),kd (two nR)],.tuple [.str (S (mc .when)),kd (.row [.use nR,.use nR,.use nR])]]]:=by
 rw [XY,Q6];simp only [kdp]
theorem Yhw (h:Nat):(kd (XX h)).depth<=8:=by
 rw [K9];simp only [two,kd,bQ,PyData.depth,PyData.depthAll]
 decide
theorem Yhx:(kd XY).depth<=8:=by
 rw [La];simp only [two,kd,bQ,PyData.depth,PyData.depthAll]
 decide
theorem Lb {K:W.Frag} {σ:St} {H:Hp} {vs:List V}:∀ H1 Q,Yj H H1->(∀ c H',Yj H1 H'->au K H' c vs->Q [.ref c] H')->Xr (uH K vs) XF σ H1 Q:=fun H1 Q s q c hc=>q c H1 (.refl H1) hc
inductive jN (K:W.Frag) (vs:List V) (H:Hp) (Q:VK) (E_:XK):Prop
 | mk (h:Nat) (h0:vs=[.int (h:Nat)]) (h1:∀ B H',Yj H H'->Xy K H' B (Y8 h)->Q (.ref B) H')
theorem Ld {x y:List Nat} (h1:PyData.strOk (S x)=true) (h2:PyData.strOk (S y)=true):∀ w∈[x,y],PyData.strOk (S w)=true:=fun w hw=>UC (P:=fun x=>PyData.strOk (S x)=true) h1 h1 h2 w (by rcases List.mem_cons.mp hw with rfl | hw;exact .head _;exact .tail _ (.tail _ hw))
theorem Z5x {k:Nat} {Z6 Z5 Z1 Z2 Z4 Z3 Z0:Addr} (R:g.Raw "kinded_book" "kinded_book" xX ["high"]) (jM:g.Fn k "row_of_uses" ["names"] (iw g.K)) (Bq:g.Fn k "num_branch" ["high"] (iB g.K)) (Br:g.Fn k "here_branch" [] (QC g.K)) (bB:g.iH "NUMBER" (.str "number")) (aV:g.iH "TRUTH" (.str "truth")) (iu:g.cj "TWO_NUMBERS" ([.str "number",.str "number"])) (iW:g.cj "TWO_TRUTHS" ([.str "truth",.str "truth"])):g.Fn (k+1) "kinded_book" ["high"] (jN g.K):=by
 refine R.fn uR (fun vs H Q E h=>by obtain ⟨h,rfl,q⟩:=h;rfl) fun f_ cdv A outer s H vs Q E hr h=>?_
 obtain ⟨h,rfl,q⟩:=h;refine ⟨_,(@Ye _ _ _ _ _ (@Yz _ _ (1) _ _ _ _ uR.nd rfl (.inl rfl) (@YA _ _ _ _ _ _ _ _ _ _ _ _ jM hr (@Ya _ _ _ _ _ (@W2 _ _ _ _ _ iu (by rfl) (by rfl) (by decide)) Yb (by rfl)) (by omega) (by rfl) (by rfl) (by decide) (by rfl) (by rfl)) (by rfl) (by first | exact .inl rfl | exact .inr rfl | assumption)) (@Ye _ _ _ _ _ (@Yz _ _ (2) _ _ _ _ uR.nd rfl (.inl rfl) (@Yu _ _ _ _ _ (@Ya _ _ _ _ _ (@YA _ _ _ _ _ _ _ _ _ _ _ _ Bq hr (@Ya _ _ _ _ _ (pv 0) Yb (by rfl)) (by omega) (by rfl) (by rfl) (by decide) (by rfl) (by rfl)) (@Ya _ _ _ _ _ (@Hv _ _ _ _ _ _ _ _ _ Br hr (by omega) (by rfl) (by rfl) (by decide)) (@Ya _ _ _ _ _ (@Yu _ _ _ _ _ (@Ya _ _ _ _ _ Yk (@Ya _ _ _ _ _ (pv 1) Yb (by rfl)) (by rfl))) (@Ya _ _ _ _ _ (@Yu _ _ _ _ _ (@Ya _ _ _ _ _ Yk (@Ya _ _ _ _ _ (pv 1) Yb (by rfl)) (by rfl))) (@Ya _ _ _ _ _ (@Yu _ _ _ _ _ (@Ya _ _ _ _ _ Yk (@Ya _ _ _ _ _ (@YA _ _ _ _ _ _ _ _ _ _ _ _ jM hr (@Ya _ _ _ _ _ (@Yu _ _ _ _ _ (@Ya _ _ _ _ _ (@XB _ _ _ _ _ aV (by rfl) (by rfl) (by decide)) (@Ya _ _ _ _ _ (@XB _ _ _ _ _ bB (by rfl) (by rfl) (by decide)) (@Ya _ _ _ _ _ (@XB _ _ _ _ _ bB (by rfl) (by rfl) (by decide)) Yb (by rfl)) (by rfl)) (by rfl))) Yb (Yw _ _ _ _ _)) (by omega) (by rfl) (by rfl) (by decide) (by rfl) (by rfl)) Yb (by rfl)) (by rfl))) Yb (Yw _ _ _ _ _)) (Yw _ _ _ _ _)) (Yw _ _ _ _ _)) (by rfl)) (by rfl))) (by rfl) (by first | exact .inl rfl | exact .inr rfl | assumption)) (@Ye _ _ _ _ _ (@Yz _ _ (3) _ _ _ _ uR.nd rfl (.inl rfl) (@Yu _ _ _ _ _ (@Ya _ _ _ _ _ (@Yu _ _ _ _ _ (@Ya _ _ _ _ _ Yk (@Ya _ _ _ _ _ (pv 1) Yb (by rfl)) (by rfl))) (@Ya _ _ _ _ _ (@Yu _ _ _ _ _ (@Ya _ _ _ _ _ Yk (@Ya _ _ _ _ _ (pv 1) Yb (by rfl)) (by rfl))) (@Ya _ _ _ _ _ (@Yu _ _ _ _ _ (@Ya _ _ _ _ _ Yk (@Ya _ _ _ _ _ (@Yu _ _ _ _ _ (@Ya _ _ _ _ _ Yk (@Ya _ _ _ _ _ (@XB _ _ _ _ _ aV (by rfl) (by rfl) (by decide)) Yb (by rfl)) (by rfl))) Yb (Yw _ _ _ _ _)) (by rfl))) (@Ya _ _ _ _ _ (@Yu _ _ _ _ _ (@Ya _ _ _ _ _ Yk (@Ya _ _ _ _ _ (@YA _ _ _ _ _ _ _ _ _ _ _ _ jM hr (@Ya _ _ _ _ _ (@W2 _ _ _ _ _ iW (by rfl) (by rfl) (by decide)) Yb (by rfl)) (by omega) (by rfl) (by rfl) (by decide) (by rfl) (by rfl)) Yb (by rfl)) (by rfl))) (@Ya _ _ _ _ _ (@Yu _ _ _ _ _ (@Ya _ _ _ _ _ Yk (@Ya _ _ _ _ _ (@YA _ _ _ _ _ _ _ _ _ _ _ _ jM hr (@Ya _ _ _ _ _ (@Yu _ _ _ _ _ (@Ya _ _ _ _ _ (@XB _ _ _ _ _ aV (by rfl) (by rfl) (by decide)) (@Ya _ _ _ _ _ (@XB _ _ _ _ _ aV (by rfl) (by rfl) (by decide)) (@Ya _ _ _ _ _ (@XB _ _ _ _ _ aV (by rfl) (by rfl) (by decide)) Yb (by rfl)) (by rfl)) (by rfl))) Yb (Yw _ _ _ _ _)) (by omega) (by rfl) (by rfl) (by decide) (by rfl) (by rfl)) Yb (by rfl)) (by rfl))) Yb (Yw _ _ _ _ _)) (Yw _ _ _ _ _)) (Yw _ _ _ _ _)) (Yw _ _ _ _ _)) (Yw _ _ _ _ _))) (by rfl) (by first | exact .inl rfl | exact .inr rfl | assumption)) (@Yf _ _ _ (@Ym _ _ _ _ (@Y5 _ _ _ _ (@Ya _ _ _ _ _ (@Yu _ _ _ _ _ (@Ya _ _ _ _ _ (@XB _ _ _ _ _ bB (by rfl) (by rfl) (by decide)) (@Ya _ _ _ _ _ (@Yu _ _ _ _ _ (@Ya _ _ _ _ _ Yk (@Ya _ _ _ _ _ (pv 2) Yb (by rfl)) (by rfl))) Yb (Yw _ _ _ _ _)) (by rfl))) (@Ya _ _ _ _ _ (@Yu _ _ _ _ _ (@Ya _ _ _ _ _ (@XB _ _ _ _ _ aV (by rfl) (by rfl) (by decide)) (@Ya _ _ _ _ _ (@Yu _ _ _ _ _ (@Ya _ _ _ _ _ Yk (@Ya _ _ _ _ _ (pv 3) Yb (by rfl)) (by rfl))) Yb (Yw _ _ _ _ _)) (by rfl))) Yb (Yw _ _ _ _ _)) (Yw _ _ _ _ _)))))))),?_⟩;refine Yv fun R rr=>?_
 refine VX (K:=g.K) (xs:=[nN,nN]) Lb (by decide) (Ld UW UW) H _ (.refl H) fun v1 H1 s1 d1=>rr _ _ (Yv fun R rr=>?_)
 have mk2:=fun {σ:St} {H':Hp} {m:Mk} {e:TE} {d:PyData} (hm:mc m≠[]) (hs:PyData.strOk (S (mc m))=true) (h:DE g.K e σ H' d)=>VW (vm hm) h hs
 have dn:DE g.K (XS (iB g.K) [] E0 (Xr (XN 0) XF)) [some (.int h),some v1,none,none] H1 (.tuple [.str (S (mc .num)),kd (.w 0 h)]):=fun H1 Q s q=>⟨h,rfl,fun a H' s' hd=>q _ _ s' hd⟩
 have dh:DE g.K (XS (QC g.K) [] E0 XF) [some (.int h),some v1,none,none] H1 (.tuple [.str (S (mc .here)),kd (.row [])]):=fun H1 Q s q=>⟨rfl,fun a H' s' hd=>q _ _ s' hd⟩
 have qF:DE g.K (XN 1) [some (.int h),some v1,none,none] H1 (kd (two nN)):=Vl rfl d1;refine (UB (YT dn (YT dh (YT (mk2 (m := .plus) (by decide) (by decide +kernel) qF) (YT (mk2 (m := .times) (by decide) (by decide +kernel) qF) (YT (mk2 (m := .when) (by decide) (by decide +kernel) (VX (xs:=[nR,nN,nN]) (QD fun H1 Q h=>h) (by decide) (UC (P:=fun x=>PyData.strOk (S x)=true) VD UW UW))) Vm))))) (by simp)) H1 _ (.refl H1) fun v2 H2 s2 d2=>rr _ _ (Yv fun R rr=>?_)
 have qF:DE g.K (XN 1) [some (.int h),some v1,some v2,none] H2 (kd (two nN)):=Vl rfl (d1.keep s2);have du:DE g.K (V8 (Xr (tC (.str "use")) (Xr (tC (.str "truth")) XF))) [some (.int h),some v1,some v2,none] H2 (kd (.use nR)):=by rw [kd];exact WW (x:="use") Bp
 refine (UB (YT (mk2 (m := .less) (by decide) (by decide +kernel) qF) (YT (mk2 (m := .same) (by decide) (by decide +kernel) qF) (YT (mk2 (m := .not) (by decide) (by decide +kernel) du) (YT (mk2 (m := .both) (by decide) (by decide +kernel) (VX (xs:=[nR,nR]) Lb (by decide) (Ld VD VD))) (YT (mk2 (m := .when) (by decide) (by decide +kernel) (VX (xs:=[nR,nR,nR]) (QD fun H1 Q h=>h) (by decide) (UC (P:=fun x=>PyData.strOk (S x)=true) VD VD VD))) Vm))))) (by simp)) H2 _ (.refl H2) fun v3 H3 s3 d3=>rr _ _ ?_
 have w2:DE g.K (XN 2) [some (.int h),some v1,some v2,some v3] H3 _:=Vl rfl (d2.keep s3);have w3:DE g.K (XN 3) [some (.int h),some v1,some v2,some v3] H3 _:=Vl rfl d3;have dq2:=VW (d:=kd (XX h)) Bm (by rw [K9];exact WW w2) UW;have dq3:=VW (d:=kd XY) Bo (by rw [La];exact WW w3) VD;refine K7 (YT dq2 (YT dq3 Vm)) (fun vs B H4 H5 s4 gB e5 hvs=>?_) (by simp);subst e5;obtain ⟨u,r,rfl,hu,h0⟩:=YY hvs;obtain ⟨u',r',rfl,hu',h0'⟩:=YY h0
 cases XU h0'
 refine q B _ ((((s1.trans s2).trans s3).trans s4).trans (.aj gB _)) ⟨[u,u'],Yd,rfl,fun i v' q' h1 h2=>?_⟩
 match i,h1,h2 with
 | 0,h1,h2 =>
  cases Option.some.inj h1
  cases Option.some.inj h2
  exact Q7 (hu.keep (.aj gB _)) (Yhw h)
 | 1,h1,h2 =>
  cases Option.some.inj h1
  cases Option.some.inj h2
  exact Q7 (hu'.keep (.aj gB _)) Yhx
theorem Le (bk:List Nat->Sh) (n:Nat) (x:List Nat) (d:PyData):wz bk (n+1) (.use x) d=(wz bk n (bk x) d).map (1+·):=by
 have e1:frm (.use x) d=true:=by cases d<;>rfl
 have e2:cM bk (.use x) d=[(bk x,d)]:=by cases d<;>rfl
 rw [wz,if_pos e1,e2]
 cases e:wz bk n (bk x) d with
 | none=>simp [e]
 | some k =>
  have:gq (.use x) d [k]=1+k:=by cases d<;>rfl
  simp [e,this]
theorem Lf (bk:List Nat->Sh) (n:Nat) (mk:List (List Nat)) (ps:List Sh) (m:Str) (e:PyData) (hl:mk.length=ps.length):wz bk (n+1) (.pick mk ps) (.tuple [.str m,e])=((bR mk m).bind fun i=>ps[i]?).bind fun p=>wz bk n p e:=by
 rw [wz]
 cases h:bR mk m with
 | none =>
  have:frm (.pick mk ps) (.tuple [.str m,e])=false:=by show (bR mk m).isSome=false;rw [h];rfl
  rw [this];rfl
 | some i =>
  have:frm (.pick mk ps) (.tuple [.str m,e])=true:=by show (bR mk m).isSome=true;rw [h];rfl
  rw [if_pos this,Option.bind_some]
  show (((((bR mk m).bind fun i=>ps[i]?).toList.map fun p=>(p,e)).mapM fun w=>wz bk n w.1 w.2).map (gq (.pick mk ps) _))=_
  rw [h,Option.bind_some]
  cases hp:ps[i]? with
  | none =>
   have h1:=Bc h;have h2:=List.getElem?_eq_none_iff.mp hp;omega
  | some p =>
   cases hw:wz bk n p e with
   | none=>simp [hw]
   | some k=>simp [hw,gq]
theorem Lg (bk:List Nat->Sh) (n:Nat) (p q:Sh) (a b:PyData):wz bk (n+1) (.row [p,q]) (.tuple [a,b])=(wz bk n p a).bind fun i=>(wz bk n q b).map fun j=>i+j:=by
 rw [wz,if_pos (by rfl)]
 show ((([p,q].zip [a,b]).mapM fun w=>wz bk n w.1 w.2).map List.sum)=_
 cases h1:wz bk n p a with
 | none=>simp [h1]
 | some i =>
  cases h2:wz bk n q b with
  | none=>simp [h1,h2]
  | some j=>simp [h1,h2]
theorem Lh (bk:List Nat->Sh) (n:Nat) (p q r:Sh) (a b c:PyData):wz bk (n+1) (.row [p,q,r]) (.tuple [a,b,c])=(wz bk n p a).bind fun i=>(wz bk n q b).bind fun j=>(wz bk n r c).map fun k=>i+(j+k):=by
 rw [wz,if_pos (by rfl)]
 show ((([p,q,r].zip [a,b,c]).mapM fun w=>wz bk n w.1 w.2).map List.sum)=_
 cases h1:wz bk n p a with
 | none=>simp [h1]
 | some i =>
  cases h2:wz bk n q b with
  | none=>simp [h1,h2]
  | some j =>
   cases h3:wz bk n r c with
   | none=>simp [h1,h2,h3]
   | some k=>simp [h1,h2,h3]
def cG:Tm->Nat
 | .num i=>1+Builtin.Int.intBits i
 | .here=>1
 | .bin _ a b=>1+(cG a+cG b)
 | .not a=>1+cG a
 | .when a b c=>1+(cG a+(cG b+cG c))
def rng (h:Nat):Tm->Prop
 | .num i=>0<=i/\i<=h
 | .here=>True
 | .bin _ a b=>rng h a/\rng h b
 | .not a=>rng h a
 | .when a b c=>rng h a/\rng h b/\rng h c
def nK (b:Bool):List Nat:=if b then nR else nN
theorem Bt (h:Nat):aD (Y8 h) nN=XX h:=by
 exact (Wg (prs:=Y8 h) (x:=nN) (q:=(nN,XX h)) (by rfl)).1
theorem Bu (h:Nat):aD (Y8 h) nR=XY:=by
 exact (Wg (prs:=Y8 h) (x:=nR) (q:=(nR,XY)) (by rfl)).1
def cV:Mk->Option Nat
 | .num=>some 0 | .here=>some 1 | .plus=>some 2 | .times=>some 3 | .when=>some 4 | _=>none
def m9:Mk->Option Nat
 | .less=>some 0 | .same=>some 1 | .not=>some 2 | .both=>some 3 | .when=>some 4 | _=>none
theorem Li (m:Mk):bR [mc .num,mc .here,mc .plus,mc .times,mc .when] (ms m)=cV m:=by cases m<;>decide +kernel
theorem Lj (m:Mk):bR [mc .less,mc .same,mc .not,mc .both,mc .when] (ms m)=m9 m:=by cases m<;>decide +kernel
def wk (b:Bool) (x:Tm):Option Nat:=if kn x=some b then some (cG x) else none
theorem Lk {bk:List Nat->Sh} {n:Nat} {x:List Nat} {d:PyData} (h:Wf bk n (bk x) d):Wf bk (n+1) (.use x) d:=by
 refine ⟨by cases d<;>trivial,fun _ w hw=>?_⟩;have e2:cM bk (.use x) d=[(bk x,d)]:=by cases d<;>rfl
 rw [e2] at hw
 cases List.mem_singleton.mp hw
 exact h
theorem Ln {bk:List Nat->Sh} {n:Nat} {mk:List (List Nat)} {ps:List Sh} {m:Str} {e:PyData} (h:∀ i p,bR mk m=some i->ps[i]?=some p->Wf bk n p e):Wf bk (n+1) (.pick mk ps) (.tuple [.str m,e]):=by
 refine ⟨trivial,fun _ w hw=>?_⟩;have hw:w∈((bR mk m).bind fun i=>ps[i]?).toList.map fun p=>(p,e):=hw
 obtain ⟨p,hp,rfl⟩:=List.mem_map.mp hw;rw [Option.mem_toList,Option.bind_eq_some_iff] at hp
 obtain ⟨i,hi,hp⟩:=hp;exact h i p hi hp
theorem Lp {bk:List Nat->Sh} {n:Nat} {ps:List Sh} {ds:List PyData} (h:∀ w∈ps.zip ds,Wf bk n w.1 w.2):Wf bk (n+1) (.row ps) (.tuple ds):=⟨trivial,fun _ w hw=>h w hw⟩
theorem Q8 {bk:List Nat->Sh} {n:Nat} {p q:Sh} {a b:PyData} (h1:Wf bk n p a) (h2:Wf bk n q b):Wf bk (n+1) (.row [p,q]) (.tuple [a,b]):=Lp fun w hw=>by
 rcases List.mem_cons.mp hw with rfl | hw
 ·exact h1
 ·cases List.mem_singleton.mp hw;exact h2
theorem Lq {bk:List Nat->Sh} {n:Nat} {p q r:Sh} {a b c:PyData} (h1:Wf bk n p a) (h2:Wf bk n q b) (h3:Wf bk n r c):Wf bk (n+1) (.row [p,q,r]) (.tuple [a,b,c]):=Lp fun w hw=>by
 rcases List.mem_cons.mp hw with rfl | hw
 ·exact h1
 rcases List.mem_cons.mp hw with rfl | hw
 ·exact h2
 ·cases List.mem_singleton.mp hw;exact h3
theorem VY {h:Nat} {n:Nat} {m:Mk} {e:PyData}:wz (aD (Y8 h)) (n+2) (.use nN) (.tuple [.str (ms m),e])=(((cV m).bind fun i=>([.w 0 h,.row [],two nN,two nN,.row [.use nR,.use nN,.use nN]]:List Sh)[i]?).bind fun p=>wz (aD (Y8 h)) n p e).map (1+·):=by
 rw [Le,Bt,XX,Lf _ _ _ _ _ _ rfl,Li]
theorem VZ {h:Nat} {n:Nat} {m:Mk} {e:PyData}:wz (aD (Y8 h)) (n+2) (.use nR) (.tuple [.str (ms m),e])=(((m9 m).bind fun i=>([two nN,two nN,.use nR,two nR,.row [.use nR,.use nR,.use nR]]:List Sh)[i]?).bind fun p=>wz (aD (Y8 h)) n p e).map (1+·):=by
 rw [Le,Bu,XY,Lf _ _ _ _ _ _ rfl,Lj]
theorem XR (k:Option Bool):k=none\/k=some false\/k=some true:=by rcases k with _ | _ | _<;>simp
theorem Vn {h:Nat}:∀ (x:Tm),cZ x->rng h x->∀ (b:Bool) (n:Nat),3*bf x<=n->wz (aD (Y8 h)) n (.use (nK b)) (td x)=wk b x
 | .num i,_,hr,b,n,hn=>by
  obtain ⟨k,rfl⟩:∃ k,n=k+3:=⟨n - 3,by simp only [bf] at hn;omega⟩
  cases b with
  | false =>
   show wz _ (k+1+2) (.use nN) (.tuple [.str (ms .num),.int i])=_
   rw [VY]
   show ((wz (aD (Y8 h)) (k+1) (.w 0 h) (.int i)).map (1+·))=some (1+Builtin.Int.intBits i)
   have hf:frm (.w 0 h) (.int i)=true:=by
    show (decide (0<=i)&&decide (i<=0+h))=true
    rw [decide_eq_true hr.1,decide_eq_true (by have:=hr.2;omega)];rfl
   rw [wz,if_pos hf]
   show some (1+Builtin.Int.intBits (i - 0))=_
   rw [Int.sub_zero]
  | true =>
   show wz _ (k+1+2) (.use nR) (.tuple [.str (ms .num),.int i])=_
   rw [VZ];rfl
 | .here,_,hr,b,n,hn=>by
  obtain ⟨k,rfl⟩:∃ k,n=k+3:=⟨n - 3,by simp only [bf] at hn;omega⟩
  cases b with
  | false =>
   show wz _ (k+1+2) (.use nN) (.tuple [.str (ms .here),.tuple []])=_
   rw [VY];rfl
  | true =>
   show wz _ (k+1+2) (.use nR) (.tuple [.str (ms .here),.tuple []])=_
   rw [VZ];rfl
 | .bin m x y,ho,hr,b,n,hn=>by
  simp only [bf] at hn;obtain ⟨k,rfl⟩:∃ k,n=k+3:=⟨n - 3,by omega⟩;have ix:=fun b=>Vn x ho.2.1 hr.1 b k (by omega)
  have iy:=fun b=>Vn y ho.2.2 hr.2 b k (by omega)
  have i0:=ix false;have i1:=ix true;have j0:=iy false;have j1:=iy true;simp only [nK,Bool.false_eq_true,if_false,if_true] at i0 i1 j0 j1;have hm:=ho.1
  cases b with
  | false =>
   show wz _ (k+1+2) (.use nN) (.tuple [.str (ms m),.tuple [td x,td y]])=_
   rw [VY]
   cases m<;>first | exact absurd hm (by decide) | skip
   all_goals simp only [cV,Option.bind_some,Option.bind_none,Option.map_none,List.getElem?_cons_zero,List.getElem?_cons_succ,two,Lg,i0,i1,j0,j1,wk,kn,kb,cG]
   all_goals (rcases XR (kn x) with hx | hx | hx<;>rcases XR (kn y) with hy | hy | hy<;>simp [hx,hy])
  | true =>
   show wz _ (k+1+2) (.use nR) (.tuple [.str (ms m),.tuple [td x,td y]])=_
   rw [VZ]
   cases m<;>first | exact absurd hm (by decide) | skip
   all_goals simp only [m9,Option.bind_some,Option.bind_none,Option.map_none,List.getElem?_cons_zero,List.getElem?_cons_succ,two,Lg,i0,i1,j0,j1,wk,kn,kb,cG]
   all_goals (rcases XR (kn x) with hx | hx | hx<;>rcases XR (kn y) with hy | hy | hy<;>simp [hx,hy])
 | .not x,ho,hr,b,n,hn=>by
  simp only [bf] at hn;obtain ⟨k,rfl⟩:∃ k,n=k+3:=⟨n - 3,by omega⟩;have i1:=Vn x ho hr true (k+1) (by omega);simp only [nK,if_true] at i1
  cases b with
  | false =>
   show wz _ (k+1+2) (.use nN) (.tuple [.str (ms .not),td x])=_
   rw [VY];simp only [cV,Option.bind_none,Option.map_none,wk,kn,kb];rcases XR (kn x) with hx | hx | hx<;>simp [hx]
  | true =>
   show wz _ (k+1+2) (.use nR) (.tuple [.str (ms .not),td x])=_
   rw [VZ];simp only [m9,Option.bind_some,List.getElem?_cons_zero,List.getElem?_cons_succ,i1,wk,kn,kb,cG];rcases XR (kn x) with hx | hx | hx<;>simp [hx]
 | .when x y z,ho,hr,b,n,hn=>by
  simp only [bf] at hn;obtain ⟨k,rfl⟩:∃ k,n=k+3:=⟨n - 3,by omega⟩;have ix:=fun b=>Vn x ho.1 hr.1 b k (by omega)
  have iy:=fun b=>Vn y ho.2.1 hr.2.1 b k (by omega)
  have iz:=fun b=>Vn z ho.2.2 hr.2.2 b k (by omega)
  have i1:=ix true;have j0:=iy false;have j1:=iy true;have l0:=iz false;have l1:=iz true;simp only [nK,Bool.false_eq_true,if_false,if_true] at i1 j0 j1 l0 l1
  cases b with
  | false =>
   show wz _ (k+1+2) (.use nN) (.tuple [.str (ms .when),.tuple [td x,td y,td z]])=_
   rw [VY];simp only [cV,Option.bind_some,List.getElem?_cons_zero,List.getElem?_cons_succ,Lh,i1,j0,j1,l0,l1,wk,kn,kb,cG];rcases XR (kn x) with hx | hx | hx<;>rcases XR (kn y) with hy | hy | hy<;>rcases XR (kn z) with hz | hz | hz<;>simp [hx,hy,hz]
  | true =>
   show wz _ (k+1+2) (.use nR) (.tuple [.str (ms .when),.tuple [td x,td y,td z]])=_
   rw [VZ];simp only [m9,Option.bind_some,List.getElem?_cons_zero,List.getElem?_cons_succ,Lh,i1,j0,j1,l0,l1,wk,kn,kb,cG];rcases XR (kn x) with hx | hx | hx<;>rcases XR (kn y) with hy | hy | hy<;>rcases XR (kn z) with hz | hz | hz<;>simp [hx,hy,hz]
theorem V0 {h n:Nat} {m:Mk} {e:PyData} (hh:∀ i p,cV m=some i->([.w 0 h,.row [],two nN,two nN,.row [.use nR,.use nN,.use nN]]:List Sh)[i]?=some p->Wf (aD (Y8 h)) n p e):Wf (aD (Y8 h)) (n+2) (.use nN) (.tuple [.str (ms m),e]):=Lk (by rw [Bt,XX];exact Ln fun i p hi hp=>hh i p (by rw [<- Li];exact hi) hp)
theorem V1 {h n:Nat} {m:Mk} {e:PyData} (hh:∀ i p,m9 m=some i->([two nN,two nN,.use nR,two nR,.row [.use nR,.use nR,.use nR]]:List Sh)[i]?=some p->Wf (aD (Y8 h)) n p e):Wf (aD (Y8 h)) (n+2) (.use nR) (.tuple [.str (ms m),e]):=Lk (by rw [Bu,XY];exact Ln fun i p hi hp=>hh i p (by rw [<- Lj];exact hi) hp)
theorem Vo {h:Nat}:∀ (x:Tm),cZ x->∀ (b:Bool) (n:Nat),3*bf x<=n->Wf (aD (Y8 h)) n (.use (nK b)) (td x)
 | .num i,_,b,n,hn=>by
  obtain ⟨k,rfl⟩:∃ k,n=k+1+2:=⟨n - 3,by simp only [bf] at hn;omega⟩
  cases b with
  | false=>exact V0 (m := .num) fun i p hi hp=>by cases hi;cases hp;exact ⟨trivial,fun _ w hw=>by cases hw⟩
  | true=>exact V1 (m := .num) fun i p hi hp=>by cases hi
 | .here,_,b,n,hn=>by
  obtain ⟨k,rfl⟩:∃ k,n=k+1+2:=⟨n - 3,by simp only [bf] at hn;omega⟩
  cases b with
  | false=>exact V0 (m := .here) fun i p hi hp=>by cases hi;cases hp;exact ⟨trivial,fun _ w hw=>by cases hw⟩
  | true=>exact V1 (m := .here) fun i p hi hp=>by cases hi
 | .bin m x y,ho,b,n,hn=>by
  simp only [bf] at hn;obtain ⟨k,rfl⟩:∃ k,n=k+1+2:=⟨n - 3,by omega⟩;have ix:=fun b=>Vo (h:=h) x ho.2.1 b k (by omega)
  have iy:=fun b=>Vo (h:=h) y ho.2.2 b k (by omega)
  have hm:=ho.1
  cases b with
  | false =>
   refine V0 fun i p hi hp=>?_
   cases m<;>first | exact absurd hm (by decide) | skip
   all_goals (cases hi<;>cases hp<;>exact Q8 (ix false) (iy false))
  | true =>
   refine V1 fun i p hi hp=>?_
   cases m<;>first | exact absurd hm (by decide) | skip
   all_goals (cases hi<;>cases hp<;>first | exact Q8 (ix false) (iy false) | exact Q8 (ix true) (iy true))
 | .not x,ho,b,n,hn=>by
  simp only [bf] at hn;obtain ⟨k,rfl⟩:∃ k,n=k+1+2:=⟨n - 3,by omega⟩;have ix:=Vo (h:=h) x ho true (k+1) (by omega)
  cases b with
  | false=>exact V0 (m := .not) fun i p hi hp=>by cases hi
  | true=>exact V1 (m := .not) fun i p hi hp=>by cases hi;cases hp;exact ix
 | .when x y z,ho,b,n,hn=>by
  simp only [bf] at hn;obtain ⟨k,rfl⟩:∃ k,n=k+1+2:=⟨n - 3,by omega⟩;have ix:=fun b=>Vo (h:=h) x ho.1 b k (by omega)
  have iy:=fun b=>Vo (h:=h) y ho.2.1 b k (by omega)
  have iz:=fun b=>Vo (h:=h) z ho.2.2 b k (by omega)
  cases b with
  | false=>exact V0 (m := .when) fun i p hi hp=>by cases hi;cases hp;exact Lq (ix true) (iy false) (iz false)
  | true=>exact V1 (m := .when) fun i p hi hp=>by cases hi;cases hp;exact Lq (ix true) (iy true) (iz true)
theorem X4 {prs:aL}:Xg prs []:=by rw [Xg];trivial
theorem YE {prs:aL} {p:Sh} {ps:List Sh} (h1:aH prs p) (h2:Xg prs ps):Xg prs (p::ps):=by rw [Xg];exact ⟨h1,h2⟩
theorem Bv {prs:aL} {lo:Int} {span:Nat}:aH prs (.w lo span):=by rw [aH];trivial
theorem V2 {prs:aL} {ps:List Sh} (h:Xg prs ps) (hl:ps.length<=100):aH prs (.row ps):=by rw [aH];exact ⟨hl,h⟩
theorem QE {prs:aL} {x:List Nat} (h:aH prs (.use x)):aH prs (two x):=V2 (YE h (YE h X4)) (Nat.le_of_ble_eq_true rfl)
theorem Bw {prs:aL} {mk:List (List Nat)} {ps:List Sh} (hl:mk.length=ps.length) (hn:ps.length<=100) (h:Xg prs ps) (hs:∀ m∈mk,PyData.strOk (S m)=true):aH prs (.pick mk ps):=by rw [aH];exact ⟨hl,hn,h,hs⟩
theorem Er (m:Mk):PyData.strOk (S (mc m))=true:=by cases m<;>decide +kernel
theorem Bx {l:List Mk}:∀ m∈l.map mc,PyData.strOk (S m)=true:=fun m hm=>by
 obtain ⟨k,_,rfl⟩:=List.mem_map.mp hm;exact Er k
theorem vp (h:Nat):aH (YX h) (.use nT):=by rw [aH];exact ⟨(nT,Wc h),rfl⟩
theorem BJ (h:Nat):aH (Y8 h) (.use nN):=by rw [aH];exact ⟨(nN,XX h),rfl⟩
theorem BK (h:Nat):aH (Y8 h) (.use nR):=by rw [aH];exact ⟨(nR,XY),rfl⟩
theorem BL (h:Nat) (b:Bool):aH (Y8 h) (.use (nK b)):=by cases b;exact BJ h;exact BK h
theorem Lr (h:Nat):aD (YX h) nT=Wc h:=(Wg (prs:=YX h) (x:=nT) (q:=(nT,Wc h)) (by rfl)).1
theorem Yhy (h:Nat):aH (YX h) (Wc h):=by
 have u:=vp h;have t:=QE u;exact Bw rfl (Nat.le_of_ble_eq_true rfl) (YE Bv (YE (V2 X4 (Nat.zero_le _)) (YE t (YE t (YE t (YE t (YE u (YE t (YE (V2 (YE u (YE u (YE u X4))) (Nat.le_of_ble_eq_true rfl)) X4))))))))) Bx
theorem Yhz (h:Nat):aH (Y8 h) (XX h):=by
 have n:=BJ h;have t:=QE n;exact Bw rfl (Nat.le_of_ble_eq_true rfl) (YE Bv (YE (V2 X4 (Nat.zero_le _)) (YE t (YE t (YE (V2 (YE (BK h) (YE n (YE n X4))) (Nat.le_of_ble_eq_true rfl)) X4))))) (Bx (l:=[.num,.here,.plus,.times,.when]))
theorem YhA (h:Nat):aH (Y8 h) XY:=by
 have r:=BK h;have t:=QE (BJ h);exact Bw rfl (Nat.le_of_ble_eq_true rfl) (YE t (YE t (YE r (YE (QE r) (YE (V2 (YE r (YE r (YE r X4))) (Nat.le_of_ble_eq_true rfl)) X4))))) (Bx (l:=[.less,.same,.not,.both,.when]))
theorem Q9 (h:Nat):cg (YX h):=by
 refine ⟨Nat.le_of_ble_eq_true rfl,fun q hq=>?_,fun q hq=>?_,fun q hq=>?_⟩<;>cases List.mem_singleton.mp hq
 ·exact Yhy h
 ·show wt (Wc h)<=24
  simp [Wc,two,wt,aP]
 ·show dep (Wc h)<=2
  simp [Wc,two,dep,YU]
theorem BP (h:Nat):cg (Y8 h):=by
 have key:∀ {P:(List Nat×Sh)->Prop},P (nN,XX h)->P (nR,XY)->∀ q∈Y8 h,P q:=fun h1 h2 q hq=>by
  rcases List.mem_cons.mp hq with rfl | hq
  ·exact h1
  ·cases List.mem_singleton.mp hq;exact h2
 refine ⟨Nat.le_of_ble_eq_true rfl,key (Yhz h) (YhA h),key ?_ ?_,key ?_ ?_⟩
 ·show wt (XX h)<=24
  simp [XX,two,wt,aP]
 ·show wt XY<=24
  simp [XY,two,wt,aP]
 ·show dep (XX h)<=2
  simp [XX,two,dep,YU]
 ·show dep XY<=2
  simp [XY,two,dep,YU]
theorem Ug {K:W.Frag} {H:Hp} {a:Addr} {x:List Nat} (h:au K H a [.str "use",.str (S x)]) (hs:PyData.strOk (S x)=true):Den K H (.ref a) (kd (.use x)):=by
 rw [kd];exact .tup h (.cons (.str _ (by decide +kernel)) (.cons (.str _ hs) .nil))
theorem QF {K:W.Frag} {H:Hp} {a:Addr} {x:List Nat} (h:au K H a [.str "use",.str (S x)]) (hs:PyData.strOk (S x)=true):DK K H a (kd (.use x)):=⟨Ug h hs,UR _,by rw [kd];simp [PyData.depth,PyData.depthAll]⟩
theorem BR:∀ (Bs:List (Int×Int)) (r:Int),0<=r->r<Xl Bs->(∀ p∈Bs,0<=p.1/\0<=p.2)->∃ b,Bs[(aN Bs r).1]?=some b/\r=Xl (Bs.take (aN Bs r).1)+((aN Bs r).2.1*b.2+(aN Bs r).2.2)/\0<=(aN Bs r).2.1/\(aN Bs r).2.1<b.1/\0<=(aN Bs r).2.2/\(aN Bs r).2.2<b.2
 | [],r,h0,h1,_=>by simp [Xl] at h1;omega
 | p::Bs,r,h0,h1,hp=>by
  rw [WT] at h1
  by_cases c:p.1*p.2<=r
  ·obtain ⟨b,g1,g2,g3⟩:=BR Bs (r - p.1*p.2) (by omega) (by omega) fun q hq=>hp q (.tail _ hq)
   rw [aN,if_pos c];refine ⟨b,by simpa using g1,?_,g3⟩;rw [List.take_succ_cons,WT];dsimp only;omega
  ·rw [aN,if_neg c]
   have h2:0<p.2:=by
    rcases Int.lt_or_eq_of_le (hp p (.head _)).2 with z | z
    ·exact z
    ·rw [<- z,Int.mul_zero] at c;omega
   refine ⟨p,rfl,?_,Int.ediv_nonneg h0 (by omega),Int.ediv_lt_of_lt_mul h2 (by omega),Int.emod_nonneg _ (by omega),Int.emod_lt_of_pos _ h2⟩
   show r=0+(r / p.2*p.2+r%p.2)
   rw [Int.zero_add,Int.ediv_mul_add_emod]
theorem Lx {α:Type}:∀ (Ls:List (List α)) (i k:Nat) (L:List α),Ls[i]?=some L->k<L.length->Ls.flatten[((Ls.take i).map List.length).sum+k]?=L[k]?
 | [],i,k,L,h,_=>by simp at h
 | M::Ls,0,k,L,h,hk=>by
  cases Option.some.inj h
  rw [List.flatten_cons];simp only [List.take_zero,List.map_nil,List.sum_nil,Nat.zero_add];exact List.getElem?_append_left hk
 | M::Ls,i+1,k,L,h,hk=>by
  have ih:=Lx Ls i k L (by simpa using h) hk;rw [List.take_succ_cons,List.map_cons,List.sum_cons,List.flatten_cons,Nat.add_assoc,List.getElem?_append_right (Nat.le_add_right _ _),Nat.add_sub_cancel_left];exact ih
theorem Ly {α:Type} {Bs:List (Int×Int)} {Ls:List (List α)} (hl:Ls.length=Bs.length) (hb:∀ (i:Nat) b L,Bs[i]?=some b->Ls[i]?=some L->(L.length:Int)=b.1*b.2) {r:Int} (h0:0<=r) (h1:r<Xl Bs) (hp:∀ p∈Bs,0<=p.1/\0<=p.2):∃ b L,Bs[(aN Bs r).1]?=some b/\Ls[(aN Bs r).1]?=some L/\Ls.flatten[r.toNat]?=L[((aN Bs r).2.1*b.2+(aN Bs r).2.2).toNat]?/\0<=(aN Bs r).2.1/\(aN Bs r).2.1<b.1/\0<=(aN Bs r).2.2/\(aN Bs r).2.2<b.2:=by
 obtain ⟨b,g1,g2,g3,g4,g5,g6⟩:=BR Bs r h0 h1 hp;have hi:=(List.getElem?_eq_some_iff.mp g1).1;have gL:Ls[(aN Bs r).1]?=some (Ls[(aN Bs r).1]'(by omega)):=List.getElem?_eq_getElem _;refine ⟨b,_,g1,gL,?_,g3,g4,g5,g6⟩;have len:=hb _ b _ g1 gL;have tl:∀ i,i<=Bs.length->Xl (Bs.take i)=((((Ls.take i).map List.length).sum:Nat):Int):=fun i=>by
  induction i with
  | zero=>intro _;rfl
  | succ i ih =>
   intro hi;have e1:Bs[i]?=some (Bs[i]'(by omega)):=List.getElem?_eq_getElem _;have e2:Ls[i]?=some (Ls[i]'(by omega)):=List.getElem?_eq_getElem _;have:=hb i _ _ e1 e2;have ih:=ih (by omega);rw [Xn e1,Xn e2,List.map_append,List.sum_append];simp only [Xl,List.map_append,List.sum_append,List.map_cons,List.map_nil,List.sum_cons,List.sum_nil] at ih ⊢;omega
 have t:=tl _ (Nat.le_of_lt hi);have m0:0<=(aN Bs r).2.1*b.2:=Int.mul_nonneg g3 (by omega);have hk:((aN Bs r).2.1*b.2+(aN Bs r).2.2).toNat<(Ls[(aN Bs r).1]'(by omega)).length:=by
  have:(aN Bs r).2.1*b.2+(aN Bs r).2.2<b.1*b.2:=by
   have:((aN Bs r).2.1+1)*b.2<=b.1*b.2:=Int.mul_le_mul_of_nonneg_right (by omega) (by omega);rw [Int.add_mul,Int.one_mul] at this
   omega
  omega
 have e:r.toNat=((Ls.take (aN Bs r).1).map List.length).sum+((aN Bs r).2.1*b.2+(aN Bs r).2.2).toNat:=by omega
 rw [e];exact Lx Ls _ _ _ gL hk
def bJ {α β γ:Type} (g:α->β->γ) (A:List α) (B:List β):List γ:=(A.map fun a=>B.map (g a)).flatten
theorem V3 {α β γ:Type} (g:α->β->γ) (A:List α) (B:List β):(bJ g A B).length=A.length*B.length:=by
 induction A with
 | nil=>simp [bJ]
 | cons a A ih =>
  have:bJ g (a::A) B=B.map (g a)++bJ g A B:=rfl;rw [this,List.length_append,ih,List.length_map,List.length_cons,Nat.add_mul,Nat.one_mul,Nat.add_comm]
theorem Lz {α β γ:Type} (g:α->β->γ) (B:List β):∀ (A:List α) (i j:Nat) (a:α) (b:β),A[i]?=some a->B[j]?=some b->(bJ g A B)[i*B.length+j]?=some (g a b)
 | [],i,j,a,b,h,_=>by simp at h
 | x::A,0,j,a,b,h,hb=>by
  cases Option.some.inj h
  have hj:=(List.getElem?_eq_some_iff.mp hb).1
  show (B.map (g x)++bJ g A B)[0*B.length+j]?=_
  rw [Nat.zero_mul,Nat.zero_add,List.getElem?_append_left (by rw [List.length_map];exact hj),List.getElem?_map,hb];rfl
 | x::A,i+1,j,a,b,h,hb=>by
  have ih:=Lz g B A i j a b (by simpa using h) hb
  show (B.map (g x)++bJ g A B)[(i+1)*B.length+j]?=_
  rw [Nat.add_mul,Nat.one_mul,show i*B.length+B.length+j=(B.map (g x)).length+(i*B.length+j) by rw [List.length_map];omega,List.getElem?_append_right (Nat.le_add_right _ _),Nat.add_sub_cancel_left];exact ih
theorem UX {α β γ:Type} {g:α->β->γ} {A:List α} {B:List β} {c:γ} (h:c∈bJ g A B):∃ a b,a∈A/\b∈B/\c=g a b:=by
 obtain ⟨l,hl,hc⟩:=List.mem_flatten.mp h;obtain ⟨a,ha,rfl⟩:=List.mem_map.mp hl;obtain ⟨b,hb,rfl⟩:=List.mem_map.mp hc;exact ⟨a,b,ha,hb,rfl⟩
def c7 {γ:Type} (F:Nat->Nat->List γ) (s:Nat):List γ:=((List.range (s+1)).map fun f=>F f (s - f)).flatten
theorem UY {γ:Type} {F:Nat->Nat->List γ} {s:Nat} {c:γ} (h:c∈c7 F s):∃ f,f<=s/\c∈F f (s - f):=by
 obtain ⟨l,hl,hc⟩:=List.mem_flatten.mp h;obtain ⟨f,hf,rfl⟩:=List.mem_map.mp hl;exact ⟨f,by have:=List.mem_range.mp hf;omega,hc⟩
theorem UD {γ:Type} {F G:Nat->Nat->List γ} {s:Nat} (h:∀ f,f<=s->F f (s - f)=G f (s - f)):c7 F s=c7 G s:=by
 unfold c7;exact congrArg List.flatten (List.map_congr_left fun f hf=>h f (by have:=List.mem_range.mp hf;omega))
theorem UZ {γ:Type} (F:Nat->Nat->List γ) (s:Nat):(c7 F s).length=((List.range (s+1)).map fun f=>(F f (s - f)).length).sum:=by
 unfold c7;rw [List.length_flatten,List.map_map];rfl
def bn (T:Nat->List Tm) (m:Mk) (s:Nat):List Tm:=c7 (fun f e=>bJ (Tm.bin m) (T f) (T e)) s
def eZ (T:Nat->List Tm) (s:Nat):List (Tm×Tm):=c7 (fun f e=>bJ Prod.mk (T f) (T e)) s
def wn (T:Nat->List Tm) (s:Nat):List Tm:=c7 (fun f e=>bJ (fun a (p:Tm×Tm)=>Tm.when a p.1 p.2) (T f) (eZ T e)) s
def eF (h:Nat) (T:Nat->List Tm) (s:Nat):List (List Tm):=[(List.range (wc h s).toNat).map fun k=>Tm.num (0+1*2^s / 2^1+(k:Nat)),if s=0 then [Tm.here] else [],bn T .plus s,bn T .times s,bn T .less s,bn T .same s,(T s).map Tm.not,bn T .both s,wn T s]
theorem YeG {h:Nat} {T T':Nat->List Tm} {s:Nat} (e:∀ f,f<=s->T f=T' f):eF h T s=eF h T' s:=by
 have b:∀ m,bn T m s=bn T' m s:=fun m=>UD fun f hf=>by rw [e f hf,e (s - f) (by omega)]
 have p:∀ t,t<=s->eZ T t=eZ T' t:=fun t ht=>UD fun f hf=>by rw [e f (by omega),e (t - f) (by omega)]
 have w:wn T s=wn T' s:=UD fun f hf=>by rw [e f hf,p (s - f) (by omega)]
 unfold eF;rw [b,b,b,b,b,w,e s (Nat.le_refl _)]
def tb (h:Nat):Nat->List (List Tm)
 | 0=>[[]]
 | n+1=>tb h n++[(eF h (fun f=>(tb h n).getD f []) n).flatten]
def tms (h s:Nat):List Tm:=(tb h s).getD s []
theorem QG (h:Nat):∀ n,(tb h n).length=n+1
 | 0=>rfl
 | n+1=>by rw [tb,List.length_append,QG h n];rfl
theorem LK (h:Nat):∀ n f,f<=n->(tb h n).getD f []=tms h f
 | 0,f,hf=>by cases Nat.le_zero.mp hf;rfl
 | n+1,f,hf=>by
  by_cases c:f<=n
  ·rw [tb,List.getD_eq_getElem?_getD,List.getElem?_append_left (by rw [QG];omega),<- List.getD_eq_getElem?_getD]
   exact LK h n f c
  ·have:f=n+1:=by omega
   subst this;rfl
theorem Vp (h s:Nat):tms h (s+1)=(eF h (tms h) s).flatten:=by
 show (tb h (s+1)).getD (s+1) []=_
 rw [tb,List.getD_eq_getElem?_getD,List.getElem?_append_right (by rw [QG];omega),QG,Nat.sub_self]
 show (eF h _ s).flatten=_
 rw [YeG (T':=tms h) fun f hf=>LK h s f hf]
theorem LQ {g:Nat->Int}:∀ {l:List Nat},(∀ x∈l,g x=0)->(l.map g).sum=0
 | [],_=>rfl
 | a::l,h=>by rw [List.map_cons,List.sum_cons,h a (.head _),LQ fun x hx=>h x (.tail _ hx)];rfl
theorem LR {bk:List Nat->Sh} {p:Sh} {t:Nat}:((List.range t).map fun f=>cnt bk p f*YD bk [] (t - f)).sum=0:=LQ fun f hf=>by
 have:=List.mem_range.mp hf;rw [Xw,if_neg (by omega),Int.mul_zero]
theorem Uh (bk:List Nat->Sh) (p:Sh) (t:Nat):YD bk [p] t=cnt bk p t:=by
 rw [XT,List.range_succ,List.map_append,List.sum_append,LR];simp only [List.map_cons,List.map_nil,List.sum_cons,List.sum_nil,Nat.sub_self];rw [Xw,if_pos rfl];omega
theorem Yfu (bk:List Nat->Sh) (p:Sh) (ps:List Sh) (t:Nat):(bY bk p ps t).take t=(List.range t).map fun f=>(cnt bk p f,YD bk ps (t - f)):=by
 unfold bY;rw [<- List.map_take,List.take_range,Nat.min_eq_left (by omega)]
theorem Mf {bk:List Nat->Sh} {s:Nat} {r:Int} {ds:List PyData} (h:Vr bk [] s r ds):ds=[]:=by cases h;rfl
theorem Mg {bk:List Nat->Sh} {p:Sh} {ps:List Sh} {s:Nat} {r:Int} {es:List PyData} (h:Vr bk (p::ps) s r es):∃ d ds,es=d::ds/\Va bk p (aN (bY bk p ps s) r).1 (aN (bY bk p ps s) r).2.1 d/\Vr bk ps (s - (aN (bY bk p ps s) r).1) (aN (bY bk p ps s) r).2.2 ds:=by
 cases h with
 | cons h1 h2=>exact ⟨_,_,rfl,h1,h2⟩
theorem YhB {bk:List Nat->Sh} {p:Sh} {t:Nat} {r:Int} {es:List PyData} (h:Vr bk [p] t r es) (h0:0<=r) (h1:r<cnt bk p t) (hn:∀ f,f<=t->0<=cnt bk p f):∃ d,es=[d]/\Va bk p t r d:=by
 obtain ⟨d,ds,rfl,g1,g2⟩:=Mg h
 cases Mf g2
 refine ⟨d,rfl,?_⟩;obtain ⟨b,e1,e2,e3,e4,e5,e6⟩:=BR (bY bk p [] t) r h0 (by rw [Q1,Uh];exact h1) (fun x hx=>by
  obtain ⟨j,hj⟩:=List.getElem?_of_mem hx;obtain ⟨j1,rfl⟩:=Wx hj;refine ⟨hn j j1,?_⟩
  show 0<=YD bk [] (t - j)
  rw [Xw];split<;>decide)
 generalize aN (bY bk p [] t) r=fd at g1 e1 e2 e3 e4 e5 e6;obtain ⟨i1,rfl⟩:=Wx e1;have e6:fd.2.2<YD bk [] (t - fd.1):=e6;rw [Xw] at e6
 have hi:fd.1=t:=by
  by_cases c:t - fd.1=0
  ·omega
  ·rw [if_neg c] at e6;omega
 rw [hi,Nat.sub_self,if_pos rfl] at e6
 rw [hi] at g1 e2
 have z:Xl ((bY bk p [] t).take t)=0:=by
  rw [Yfu,Xl,List.map_map];exact LR
 have e2:r=Xl ((bY bk p [] t).take t)+(fd.2.1*YD bk [] (t - t)+fd.2.2):=e2;rw [z,Nat.sub_self,Xw,if_pos rfl] at e2
 have:fd.2.1=r:=by omega
 rw [this] at g1
 exact g1
theorem Mh {bk:List Nat->Sh} {p:Sh} {ps:List Sh} {s:Nat} {α β γ:Type} (g:α->β->γ) {A:Nat->List α} {B:Nat->List β} {RA:α->PyData->Prop} {RB:β->List PyData->Prop} (lA:∀ f,f<=s->((A f).length:Int)=cnt bk p f) (lB:∀ f,f<=s->((B f).length:Int)=YD bk ps f)
  (aA:∀ f,f<=s->∀ r d,0<=r->r<cnt bk p f->Va bk p f r d->∃ x,(A f)[r.toNat]?=some x/\RA x d) (aB:∀ f,f<=s->∀ r ds,0<=r->r<YD bk ps f->Vr bk ps f r ds->∃ y,(B f)[r.toNat]?=some y/\RB y ds) :
  ((c7 (fun f e=>bJ g (A f) (B e)) s).length:Int)=YD bk (p::ps) s/\∀ r es,0<=r->r<YD bk (p::ps) s->Vr bk (p::ps) s r es->∃ x y d ds,es=d::ds/\RA x d/\RB y ds/\(c7 (fun f e=>bJ g (A f) (B e)) s)[r.toNat]?=some (g x y):=by
 have hb:∀ (i:Nat) b L,(bY bk p ps s)[i]?=some b->((List.range (s+1)).map fun f=>bJ g (A f) (B (s - f)))[i]?=some L->(L.length:Int)=b.1*b.2:=fun i b L h1 h2=>by
  obtain ⟨hi,rfl⟩:=Wx h1;rw [List.getElem?_map,List.getElem?_range (by omega)] at h2
  cases Option.some.inj h2
  rw [V3,Int.natCast_mul,lA i hi,lB (s - i) (by omega)]
 have nn:∀ x∈bY bk p ps s,0<=x.1/\0<=x.2:=fun x hx=>by
  obtain ⟨j,hj⟩:=List.getElem?_of_mem hx;obtain ⟨j1,rfl⟩:=Wx hj;exact ⟨by rw [<- lA j j1];omega,by rw [<- lB (s - j) (by omega)];omega⟩
 constructor
 ·rw [UZ,XT]
  have:∀ l:List Nat,(∀ f∈l,f<=s)->(((l.map fun f=>(bJ g (A f) (B (s - f))).length).sum:Nat):Int)=(l.map fun f=>cnt bk p f*YD bk ps (s - f)).sum:=fun l=>by
   induction l with
   | nil=>intro _;rfl
   | cons f l ih =>
    intro hl;have hf:=hl f (.head _);rw [List.map_cons,List.sum_cons,List.map_cons,List.sum_cons,<- ih fun x hx=>hl x (.tail _ hx),Int.natCast_add,V3,Int.natCast_mul,lA f hf,lB (s - f) (by omega)]
  exact this _ fun f hf=>by have:=List.mem_range.mp hf;omega
 ·intro r es h0 h1 hv
  obtain ⟨d,ds,rfl,g1,g2⟩:=Mg hv;obtain ⟨b,L,e1,e2,e3,e4,e5,e6,e7⟩:=Ly (Ls:=(List.range (s+1)).map fun f=>bJ g (A f) (B (s - f))) (by rw [bY,List.length_map,List.length_map]) hb h0 (by rw [Q1];exact h1) nn;generalize aN (bY bk p ps s) r=fd at g1 g2 e1 e2 e3 e4 e5 e6 e7;obtain ⟨hi,rfl⟩:=Wx e1;rw [List.getElem?_map,List.getElem?_range (by omega)] at e2
  cases Option.some.inj e2
  obtain ⟨x,x1,x2⟩:=aA fd.1 hi _ d e4 e5 g1;obtain ⟨y,y1,y2⟩:=aB (s - fd.1) (by omega) _ ds e6 e7 g2;refine ⟨x,y,d,ds,rfl,x2,y2,?_⟩
  show ((List.range (s+1)).map fun f=>bJ g (A f) (B (s - f))).flatten[r.toNat]?=_
  rw [e3,<- Lz g (B (s - fd.1)) (A fd.1) fd.2.1.toNat fd.2.2.toNat x y x1 y1]
  congr 1
  have:(fd.2.1*YD bk ps (s - fd.1)).toNat=fd.2.1.toNat*(B (s - fd.1)).length:=by
   rw [<- lB (s - fd.1) (by omega),Int.toNat_mul e4 (by omega)];rfl
  have m0:0<=fd.2.1*YD bk ps (s - fd.1):=Int.mul_nonneg e4 (by rw [<- lB (s - fd.1) (by omega)];omega)
  show (fd.2.1*YD bk ps (s - fd.1)+fd.2.2).toNat=_
  omega
structure GT (h s:Nat):Prop where
 len:((tms h s).length:Int)=cnt (aD (YX h)) (.use nT) s
 at_:∀ r d,0<=r->r<cnt (aD (YX h)) (.use nT) s->Va (aD (YX h)) (.use nT) s r d->∃ x,(tms h s)[r.toNat]?=some x/\d=td x
theorem BW {h s:Nat} (G:∀ f,f<=s->GT h f):∀ t,t<=s->((eZ (tms h) t).length:Int)=YD (aD (YX h)) [.use nT,.use nT] t/\∀ r es,0<=r->r<YD (aD (YX h)) [.use nT,.use nT] t->Vr (aD (YX h)) [.use nT,.use nT] t r es->∃ p,(eZ (tms h) t)[r.toNat]?=some p/\es=[td p.1,td p.2]:=fun t ht=>by
 have nn:∀ f,f<=t->0<=cnt (aD (YX h)) (.use nT) f:=fun f hf=>by rw [<- (G f (by omega)).len];omega
 have:=Mh (bk:=aD (YX h)) (p := .use nT) (ps:=[.use nT]) (s:=t) Prod.mk (A:=tms h) (B:=tms h) (RA:=fun x d=>d=td x) (RB:=fun y ds=>ds=[td y]) (fun f hf=>(G f (by omega)).len) (fun f hf=>by rw [Uh];exact (G f (by omega)).len) (fun f hf=>(G f (by omega)).at_) (fun f hf r ds h0 h1 hv=>by
  rw [Uh] at h1
  obtain ⟨d,rfl,hd⟩:=YhB hv h0 h1 fun e he=>nn e (by omega)
  obtain ⟨y,y1,rfl⟩:=(G f (by omega)).at_ r d h0 h1 hd;exact ⟨y,y1,rfl⟩)
 refine ⟨this.1,fun r es h0 h1 hv=>?_⟩;obtain ⟨x,y,d,ds,rfl,rfl,rfl,e⟩:=this.2 r es h0 h1 hv;exact ⟨(x,y),e,rfl⟩
theorem YgF {h s:Nat} (G:∀ f,f<=s->GT h f):((wn (tms h) s).length:Int)=YD (aD (YX h)) [.use nT,.use nT,.use nT] s/\∀ r es,0<=r->r<YD (aD (YX h)) [.use nT,.use nT,.use nT] s->Vr (aD (YX h)) [.use nT,.use nT,.use nT] s r es->∃ x y z,(wn (tms h) s)[r.toNat]?=some (.when x y z)/\es=[td x,td y,td z]:=by
 have:=Mh (bk:=aD (YX h)) (p := .use nT) (ps:=[.use nT,.use nT]) (s:=s) (fun a (p:Tm×Tm)=>Tm.when a p.1 p.2) (A:=tms h) (B:=eZ (tms h)) (RA:=fun x d=>d=td x) (RB:=fun p ds=>ds=[td p.1,td p.2]) (fun f hf=>(G f hf).len) (fun f hf=>(BW G f hf).1) (fun f hf=>(G f hf).at_) (fun f hf=>(BW G f hf).2);refine ⟨this.1,fun r es h0 h1 hv=>?_⟩;obtain ⟨x,y,d,ds,rfl,rfl,rfl,e⟩:=this.2 r es h0 h1 hv;exact ⟨x,y.1,y.2,e,rfl⟩
theorem YgG {α β γ δ:Type} (g:α->β->γ) (k:γ->δ) (A:List α) (B:List β):(bJ g A B).map k=bJ (fun a b=>k (g a b)) A B:=by
 unfold bJ;rw [List.map_flatten,List.map_map]
 congr 1
 exact List.map_congr_left fun a _=>by simp
theorem Es (T:Nat->List Tm) (m:Mk) (s:Nat):bn T m s=(eZ T s).map fun p => .bin m p.1 p.2:=by
 unfold bn eZ c7;rw [List.map_flatten,List.map_map]
 congr 1
 exact List.map_congr_left fun f _=>by rw [Function.comp,YgG]
theorem BX {bk:List Nat->Sh} {ps:List Sh} {s:Nat} {r:Int} {d:PyData} (h:Va bk (.row ps) s r d):∃ ds,d = .tuple ds/\Vr bk ps s r ds:=by
 cases h with
 | row h=>exact ⟨_,rfl,h⟩
theorem Mi {h s:Nat} (G:∀ f,f<=s->GT h f) (m:Mk):((bn (tms h) m s).length:Int)=cnt (aD (YX h)) (two nT) s/\∀ r e,0<=r->r<cnt (aD (YX h)) (two nT) s->Va (aD (YX h)) (two nT) s r e->∃ x,(bn (tms h) m s)[r.toNat]?=some x /\ .tuple [.str (ms m),e]=td x:=by
 have g:=BW G s (Nat.le_refl _);rw [two,XI,Es];refine ⟨by rw [List.length_map];exact g.1,fun r e h0 h1 hv=>?_⟩;obtain ⟨ds,rfl,hr⟩:=BX hv;obtain ⟨p,e1,rfl⟩:=g.2 r ds h0 h1 hr;exact ⟨.bin m p.1 p.2,by rw [List.getElem?_map,e1];rfl,rfl⟩
structure Pc (h s:Nat) (L:List Tm) (p:Sh) (m:Mk):Prop where
 len:(L.length:Int)=cnt (aD (YX h)) p s
 at_:∀ r e,0<=r->r<cnt (aD (YX h)) p s->Va (aD (YX h)) p s r e->∃ x,L[r.toNat]?=some x /\ .tuple [.str (ms m),e]=td x
def Qh (h:Nat):List Sh:=[.w 0 h,.row [],two nT,two nT,two nT,two nT,.use nT,two nT,.row [.use nT,.use nT,.use nT]]
theorem YhC (h s:Nat):Pc h s ((List.range (wc h s).toNat).map fun k=>Tm.num (0+1*2^s / 2^1+(k:Nat))) (.w 0 h) .num:=by
 have b:=(Ue h s).1;constructor
 ·rw [List.length_map,List.length_range,Qx];omega
 ·intro r e h0 h1 hv
  rw [Qx] at h1
  cases hv
  refine ⟨.num (0+1*2^s / 2^1+r),?_,rfl⟩;rw [List.getElem?_map,List.getElem?_range (by omega)]
  show some (Tm.num (0+1*2^s / 2^1+(r.toNat:Int)))=_
  rw [Int.toNat_of_nonneg h0]
theorem YgH (h s:Nat):Pc h s (if s=0 then [Tm.here] else []) (.row []) .here:=by
 constructor
 ·rw [XI,Xw];split<;>rfl
 ·intro r e h0 h1 hv
  rw [XI,Xw] at h1
  obtain ⟨ds,rfl,hr⟩:=BX hv
  cases Mf hr
  by_cases c:s=0
  ·rw [if_pos c] at h1 ⊢
   have:r=0:=by omega
   subst this;exact ⟨.here,rfl,rfl⟩
  ·rw [if_neg c] at h1;omega
theorem UE {h s:Nat} (G:∀ f,f<=s->GT h f) (m:Mk):Pc h s (bn (tms h) m s) (two nT) m:=⟨(Mi G m).1,(Mi G m).2⟩
theorem YhD {h s:Nat} (G:GT h s):Pc h s ((tms h s).map Tm.not) (.use nT) .not:=by
 refine ⟨by rw [List.length_map];exact G.len,fun r e h0 h1 hv=>?_⟩;obtain ⟨x,e1,rfl⟩:=G.at_ r e h0 h1 hv;exact ⟨.not x,by rw [List.getElem?_map,e1];rfl,rfl⟩
theorem YgI {h s:Nat} (G:∀ f,f<=s->GT h f):Pc h s (wn (tms h) s) (.row [.use nT,.use nT,.use nT]) .when:=by
 have g:=YgF G;refine ⟨by rw [XI];exact g.1,fun r e h0 h1 hv=>?_⟩;rw [XI] at h1
 obtain ⟨ds,rfl,hr⟩:=BX hv;obtain ⟨x,y,z,e1,rfl⟩:=g.2 r ds h0 h1 hr;exact ⟨.when x y z,e1,rfl⟩
theorem QH {h s:Nat} (G:∀ f,f<=s->GT h f):∀ (i:Nat) p,(Qh h)[i]?=some p->∃ L m,(eF h (tms h) s)[i]?=some L/\vo[i]?=some m/\Pc h s L p m
 | 0,_,e=>by cases e;exact ⟨_,_,rfl,rfl,YhC h s⟩
 | 1,_,e=>by cases e;exact ⟨_,_,rfl,rfl,YgH h s⟩
 | 2,_,e=>by cases e;exact ⟨_,_,rfl,rfl,UE G .plus⟩
 | 3,_,e=>by cases e;exact ⟨_,_,rfl,rfl,UE G .times⟩
 | 4,_,e=>by cases e;exact ⟨_,_,rfl,rfl,UE G .less⟩
 | 5,_,e=>by cases e;exact ⟨_,_,rfl,rfl,UE G .same⟩
 | 6,_,e=>by cases e;exact ⟨_,_,rfl,rfl,YhD (G s (Nat.le_refl _))⟩
 | 7,_,e=>by cases e;exact ⟨_,_,rfl,rfl,UE G .both⟩
 | 8,_,e=>by cases e;exact ⟨_,_,rfl,rfl,YgI G⟩
 | _+9,_,e=>by cases e
theorem YgJ (h:Nat):GT h 0:=⟨by rw [WD];rfl,fun r d h0 h1 _=>by rw [WD] at h1;omega⟩
theorem YgK {h s:Nat} (G:∀ f,f<=s->GT h f):GT h (s+1):=by
 have hb:∀ (i:Nat) b L,((Qh h).map fun p=>(cnt (aD (YX h)) p s,(1:Int)))[i]?=some b->(eF h (tms h) s)[i]?=some L->(L.length:Int)=b.1*b.2:=fun i b L h1 h2=>by
  rw [List.getElem?_map] at h1
  obtain ⟨p,hp,rfl⟩:=Option.map_eq_some_iff.mp h1;obtain ⟨L',m,e1,e2,pc⟩:=QH G i p hp;rw [h2] at e1
  cases Option.some.inj e1
  rw [pc.len];exact (Int.mul_one _).symm
 have nn:∀ x∈(Qh h).map fun p=>(cnt (aD (YX h)) p s,(1:Int)),0<=x.1/\0<=x.2:=fun x hx=>by
  obtain ⟨i,hi⟩:=List.getElem?_of_mem hx;rw [List.getElem?_map] at hi
  obtain ⟨p,hp,rfl⟩:=Option.map_eq_some_iff.mp hi;obtain ⟨L',m,e1,e2,pc⟩:=QH G i p hp;exact ⟨by show 0<=cnt _ p s;rw [<- pc.len];omega,(by decide:(0:Int)<=1)⟩
 have ec:cnt (aD (YX h)) (.use nT) (s+1)=((Qh h).map fun p=>cnt (aD (YX h)) p s).sum:=by
  rw [W7,Lr,Wc,WC];rfl
 constructor
 ·rw [ec,Vp,List.length_flatten]
  have p:=fun i p e=>(QH G i p e)
  obtain ⟨_,_,e0,_,p0⟩:=p 0 _ rfl;obtain ⟨_,_,e1,_,p1⟩:=p 1 _ rfl;obtain ⟨_,_,e2,_,p2⟩:=p 2 _ rfl;obtain ⟨_,_,e3,_,p3⟩:=p 3 _ rfl;obtain ⟨_,_,e4,_,p4⟩:=p 4 _ rfl;obtain ⟨_,_,e5,_,p5⟩:=p 5 _ rfl;obtain ⟨_,_,e6,_,p6⟩:=p 6 _ rfl;obtain ⟨_,_,e7,_,p7⟩:=p 7 _ rfl;obtain ⟨_,_,e8,_,p8⟩:=p 8 _ rfl
  cases e0;cases e1;cases e2;cases e3;cases e4;cases e5;cases e6;cases e7;cases e8
  simp only [Qh,eF,List.map_cons,List.map_nil,List.sum_cons,List.sum_nil,<- p0.len,<- p1.len,<- p2.len,<- p6.len,<- p8.len,Int.natCast_add];have:=p2.len;have:=p3.len;have:=p4.len;have:=p5.len;have:=p7.len;omega
 ·intro r d h0 h1 hv
  rw [ec,<- Km (fun p=>cnt (aD (YX h)) p s)] at h1
  rw [Vp]
  cases hv with
  | use hv =>
   rw [Lr,Wc] at hv
   generalize hps:([.w 0 h,.row [],two nT,two nT,two nT,two nT,.use nT,two nT,.row [.use nT,.use nT,.use nT]]:List Sh)=ps at hv;have hq:ps=Qh h:=hps.symm;subst hq
   cases hv with
   | @pick _ _ _ _ p m e q1 q2 q3 =>
    obtain ⟨b,L,e1,e2,e3,e4,e5,e6,e7⟩:=Ly (Ls:=eF h (tms h) s) rfl hb h0 h1 nn;generalize aN ((Qh h).map fun p=>(cnt (aD (YX h)) p s,(1:Int))) r=fd at q1 q2 q3 e1 e2 e3 e4 e5 e6 e7;obtain ⟨L',m',g1,g2,pc⟩:=QH G fd.1 p q1;rw [e2] at g1
    cases Option.some.inj g1
    rw [List.getElem?_map,q1] at e1
    cases Option.some.inj e1
    rw [List.getElem?_map,g2] at q2
    cases Option.some.inj q2
    have e7:fd.2.2<1:=e7;obtain ⟨x,x1,x2⟩:=pc.at_ _ e e4 e5 q3;refine ⟨x,?_,?_⟩
    ·rw [e3]
     show L[(fd.2.1*1+fd.2.2).toNat]?=_
     rw [show fd.2.1*1+fd.2.2=fd.2.1 by omega];exact x1
    ·rw [<- x2,vm ?_]
     intro z;have:=List.mem_of_getElem? g2;simp only [vo,List.mem_cons,List.not_mem_nil,or_false] at this;rcases this with rfl | rfl | rfl | rfl | rfl | rfl | rfl | rfl | rfl<;>cases z
theorem QI (h:Nat):∀ s,GT h s:=fun s=>by
 have key:∀ n f,f<=n->GT h f:=fun n=>by
  induction n with
  | zero=>intro f hf;cases Nat.le_zero.mp hf;exact YgJ h
  | succ n ih =>
   intro f hf;by_cases c:f<=n
   ·exact ih f c
   ·have:f=n+1:=by omega
    subst this;exact YgK ih
 exact key s s (Nat.le_refl _)
theorem YgL {x:Int} {m:Nat} (h:x.natAbs<2^m) (h':∀ k,k<m->¬ x.natAbs<2^k):Builtin.Int.intBits x=m:=by
 have key:∀ m,Builtin.Int.intBits x<=m↔x.natAbs<2^m:=fun m=>PySem.intBits_le_iff
 apply Nat.le_antisymm ((key m).mpr h)
 rcases Nat.lt_or_ge (Builtin.Int.intBits x) m with c | c
 ·exact absurd ((key _).mp (Nat.le_refl _)) (h' _ c)
 ·exact c
theorem YhE {h s:Nat} {k:Nat} (hk:k<(wc h s).toNat):0<=(0+1*2^s / 2^1+(k:Int))/\(0+1*2^s / 2^1+(k:Int))<=h/\Builtin.Int.intBits (0+1*2^s / 2^1+(k:Int))=s:=by
 have p:(0:Int)<2^s:=Int.pow_pos (by decide);have e2:(2:Int)^1=2:=rfl;have hw:wc h s=if (if (1*2^s - 1:Int)<h then (1*2^s - 1:Int) else h) - 1*2^s / 2^1+1>0 then (if (1*2^s - 1:Int)<h then (1*2^s - 1:Int) else h) - 1*2^s / 2^1+1 else 0:=rfl
 have b1:(k:Int)<wc h s:=by omega
 rw [hw,e2] at b1
 rw [e2];generalize hP:(2:Int)^s=P at p b1;have b2:(0+1*P / 2+(k:Int))<=h/\(0+1*P / 2+(k:Int))<P:=by
  split at b1
  ·split at b1<;>split at * <;> omega
  ·omega
 refine ⟨by omega,b2.1,?_⟩
 apply YgL
 ·have:((2^s:Nat):Int)=P:=by rw [<- hP];norm_cast
  omega
 ·intro j hj
  have hle:(2:Nat)^j<=2^(s - 1):=Nat.pow_le_pow_right (by decide) (by omega);have h2:(2:Nat)^s=2*2^(s - 1):=by
   rw [<- Nat.pow_succ'];congr 1;omega
  have:((2^s:Nat):Int)=P:=by rw [<- hP];norm_cast
  omega
structure MT (h s:Nat) (x:Tm):Prop where
 ok:cZ x
 rg:rng h x
 sz:cG x=s
 dp:bf x<=s
theorem UF {h s:Nat} {m:Mk} (hm:jy m=true) (G:∀ f,f<=s->∀ x∈tms h f,MT h f x) {x:Tm} (hx:x∈bn (tms h) m s):MT h (s+1) x:=by
 obtain ⟨f,hf,hx⟩:=UY hx;obtain ⟨a,b,ha,hb,rfl⟩:=UX hx;have A:=G f hf a ha;have B:=G (s - f) (by omega) b hb;have:=A.sz;have:=B.sz;have:=A.dp;have:=B.dp;have pa:=Wj a;have pb:=Wj b;exact ⟨⟨hm,A.ok,B.ok⟩,⟨A.rg,B.rg⟩,by show 1+(cG a+cG b)=_;omega,by show 1+max (bf a) (bf b)<=_;omega⟩
theorem YgM {h s:Nat} (G:∀ f,f<=s->∀ x∈tms h f,MT h f x):∀ x∈tms h (s+1),MT h (s+1) x:=fun x hx=>by
 rw [Vp] at hx
 obtain ⟨L,hL,hx⟩:=List.mem_flatten.mp hx;simp only [eF,List.mem_cons,List.not_mem_nil,or_false] at hL;rcases hL with rfl | rfl | rfl | rfl | rfl | rfl | rfl | rfl | rfl
 ·obtain ⟨k,hk,rfl⟩:=List.mem_map.mp hx
  obtain ⟨h1,h2,h3⟩:=YhE (List.mem_range.mp hk);exact ⟨trivial,⟨h1,h2⟩,by show 1+_=_;rw [h3];omega,by show 1<=_;omega⟩
 ·split at hx
  ·rename_i c
   cases List.mem_singleton.mp hx
   exact ⟨trivial,trivial,by show 1=_;omega,by show 1<=_;omega⟩
  ·cases hx
 ·exact UF rfl G hx
 ·exact UF rfl G hx
 ·exact UF rfl G hx
 ·exact UF rfl G hx
 ·obtain ⟨y,hy,rfl⟩:=List.mem_map.mp hx
  have A:=G s (Nat.le_refl _) y hy;have:=A.sz;have:=A.dp;exact ⟨A.ok,A.rg,by show 1+cG y=_;omega,by show 1+bf y<=_;omega⟩
 ·exact UF rfl G hx
 ·obtain ⟨f,hf,hx⟩:=UY hx
  obtain ⟨a,p,ha,hp,rfl⟩:=UX hx;obtain ⟨e,he,hp⟩:=UY hp;obtain ⟨b,c,hb,hc,rfl⟩:=UX hp;have A:=G f hf a ha;have B:=G e (by omega) b hb;have C:=G (s - f - e) (by omega) c hc;have:=A.sz;have:=B.sz;have:=C.sz;have:=A.dp;have:=B.dp;have:=C.dp;have pa:=Wj a;have pb:=Wj b;have pc:=Wj c;exact ⟨⟨A.ok,B.ok,C.ok⟩,⟨A.rg,B.rg,C.rg⟩,by show 1+(cG a+(cG b+cG c))=_;omega,by show 1+max (bf a) (max (bf b) (bf c))<=_;omega⟩
theorem Mj {P:Nat->Prop} (h0:P 0) (hs:∀ s,(∀ f,f<=s->P f)->P (s+1)):∀ s,P s:=fun s=>by
 have key:∀ n f,f<=n->P f:=fun n=>by
  induction n with
  | zero=>intro f hf;cases Nat.le_zero.mp hf;exact h0
  | succ n ih =>
   intro f hf;by_cases c:f<=n
   ·exact ih f c
   ·have:f=n+1:=by omega
    subst this;exact hs n ih
 exact key s s (Nat.le_refl _)
theorem Ml (h:Nat):∀ s,∀ x∈tms h s,MT h s x:=Mj (fun x hx=>by cases hx) fun s G=>YgM G
def kc (b:Bool) (x:Tm):Bool:=decide (kn x=some b)
theorem Mp {α β γ:Type} {g:α->β->γ} {P:γ->Bool} {PA:α->Bool} {PB:β->Bool} (h:∀ a b,P (g a b)=(PA a&&PB b)) (A:List α) (B:List β):((bJ g A B).filter P).length=(A.filter PA).length*(B.filter PB).length:=by
 induction A with
 | nil=>simp [bJ]
 | cons a A ih =>
  have e:bJ g (a::A) B=B.map (g a)++bJ g A B:=rfl;have one:((B.map (g a)).filter P).length=if PA a then (B.filter PB).length else 0:=by
   clear ih e
   induction B with
   | nil=>simp
   | cons b B ih =>
    rw [List.map_cons,List.filter_cons,List.filter_cons,h]
    cases ha:PA a with
    | false=>rw [ha] at ih;simpa using ih
    | true =>
     rw [ha] at ih
     cases hb:PB b with
     | false=>simpa using ih
     | true=>simp at ih ⊢;exact ih
  rw [e,List.filter_append,List.length_append,ih,one,List.filter_cons]
  cases PA a with
  | false=>simp
  | true=>simp only [if_true,List.length_cons,Nat.add_mul,Nat.one_mul];exact Nat.add_comm _ _
theorem Mq {γ:Type} {F:Nat->Nat->List γ} {P:γ->Bool} (s:Nat):((c7 F s).filter P).length=((List.range (s+1)).map fun f=>((F f (s - f)).filter P).length).sum:=by
 unfold c7;rw [List.filter_flatten,List.length_flatten,List.map_map,List.map_map];rfl
theorem Qi {u:Nat->Nat} {v:Nat->Int}:∀ {l:List Nat},(∀ f∈l,((u f:Nat):Int)=v f)->(((l.map u).sum:Nat):Int)=(l.map v).sum
 | [],_=>rfl
 | a::l,h=>by rw [List.map_cons,List.sum_cons,List.map_cons,List.sum_cons,Int.natCast_add,h a (.head _),Qi fun f hf=>h f (.tail _ hf)]
theorem YeK {γ:Type} {P:γ->Bool} {L:List γ} (h:∀ x∈L,P x=false):(L.filter P).length=0:=by
 rw [List.filter_eq_nil_iff.mpr fun x hx=>by rw [h x hx];decide];rfl
def GK (h s:Nat):Prop:=∀ b,((((tms h s).filter (kc b)).length:Nat):Int)=cnt (aD (Y8 h)) (.use (nK b)) s
theorem Mr {h s:Nat} (G:∀ f,f<=s->GK h f) {γ:Type} {g:Tm->Tm->γ} {P:γ->Bool} (b1 b2:Bool) (hP:∀ a b,P (g a b)=(kc b1 a&&kc b2 b)):∀ t,t<=s->(((((c7 (fun f e=>bJ g (tms h f) (tms h e)) t).filter P).length:Nat)):Int)=YD (aD (Y8 h)) [.use (nK b1),.use (nK b2)] t:=fun t ht=>by
 rw [Mq,XT];refine Qi fun f hf=>?_
 have hf:=List.mem_range.mp hf;rw [Mp hP,Int.natCast_mul,G f (by omega) b1,G (t - f) (by omega) b2,Uh]
theorem UG {h s:Nat} (G:∀ f,f<=s->GK h f) {m:Mk} {b:Bool} (b1 b2:Bool) (hP:∀ x y,kc b (.bin m x y)=(kc b1 x&&kc b2 y)):((((bn (tms h) m s).filter (kc b)).length:Nat):Int)=YD (aD (Y8 h)) [.use (nK b1),.use (nK b2)] s:=Mr G b1 b2 hP s (Nat.le_refl _)
theorem V4 {h s:Nat} {m:Mk} {b:Bool} (hP:∀ x y,kc b (.bin m x y)=false):((bn (tms h) m s).filter (kc b)).length=0:=YeK fun x hx=>by
 obtain ⟨f,_,hx⟩:=UY hx;obtain ⟨a,c,_,_,rfl⟩:=UX hx;exact hP a c
theorem YgN (b:Bool) (x y z:Tm):kc b (.when x y z)=(kc true x&&(kc b y&&kc b z)):=by
 unfold kc;simp only [kn,kb];rcases XR (kn x) with hx | hx | hx<;>rcases XR (kn y) with hy | hy | hy<;>rcases XR (kn z) with hz | hz | hz<;>cases b<;>simp [hx,hy,hz]
theorem YgO {h s:Nat} (G:∀ f,f<=s->GK h f) (b:Bool):((((wn (tms h) s).filter (kc b)).length:Nat):Int)=YD (aD (Y8 h)) [.use nR,.use (nK b),.use (nK b)] s:=by
 unfold wn;rw [Mq,XT];refine Qi fun f hf=>?_
 have hf:=List.mem_range.mp hf;rw [Mp (PA:=kc true) (PB:=fun p:Tm×Tm=>kc b p.1&&kc b p.2) (fun a p=>YgN b a p.1 p.2),Int.natCast_mul,G f (by omega) true];have:=Mr G (g:=Prod.mk) (P:=fun p:Tm×Tm=>kc b p.1&&kc b p.2) b b (fun _ _=>rfl) (s - f) (by omega)
 show _*(((((eZ (tms h) (s - f)).filter fun p:Tm×Tm=>kc b p.1&&kc b p.2).length:Nat)):Int)=_
 rw [show eZ (tms h) (s - f)=c7 (fun f e=>bJ Prod.mk (tms h f) (tms h e)) (s - f) from rfl,this];rfl
theorem X8 (b:Bool) (m:Mk) (hm:jy m=true) (x y:Tm):kc b (.bin m x y)=match m,b with
  | .plus,false=>kc false x&&kc false y
  | .times,false=>kc false x&&kc false y
  | .less,true=>kc false x&&kc false y
  | .same,true=>kc false x&&kc false y
  | .both,true=>kc true x&&kc true y
  | _,_=>false:=by
 unfold kc
 cases m<;>first | exact absurd hm (by decide) | skip
 all_goals (simp only [kn,kb];rcases XR (kn x) with hx | hx | hx<;>rcases XR (kn y) with hy | hy | hy<;>cases b<;>simp [hx,hy])
theorem YhF (b:Bool) (x:Tm):kc b (.not x)=(b&&kc true x):=by
 unfold kc;simp only [kn,kb];rcases XR (kn x) with hx | hx | hx<;>cases b<;>simp [hx]
theorem YgP {h s:Nat} (G:∀ f,f<=s->GK h f):GK h (s+1):=fun b=>by
 rw [Vp,List.filter_flatten,List.length_flatten,List.map_map];have wb:=(Ue h s).1;have n1:∀ L:List Nat,((L.map fun k=>Tm.num (0+1*2^s / 2^1+(k:Nat))).filter (kc b)).length=if b then 0 else L.length:=fun L=>by
  induction L with
  | nil=>cases b<;>rfl
  | cons k L ih=>rw [List.map_cons,List.filter_cons,show kc b (Tm.num _) = !b by cases b<;>rfl];cases b<;>simp at ih ⊢<;>exact ih
 have n2:((if s=0 then [Tm.here] else []).filter (kc b)).length=if b then 0 else if s=0 then 1 else 0:=by
  split<;>cases b<;>simp [kc,kn,kb]
 have n6:(((tms h s).map Tm.not).filter (kc b)).length=if b then ((tms h s).filter (kc true)).length else 0:=by
  generalize tms h s=L
  induction L with
  | nil=>cases b<;>rfl
  | cons x L ih=>rw [List.map_cons,List.filter_cons,List.filter_cons,YhF];cases b<;>cases hk:kc true x<;>simp [hk] at ih ⊢<;>exact ih
 have n8:=YgO G b;simp only [eF,Function.comp,List.map_cons,List.map_nil,List.sum_cons,List.sum_nil,n1,n2,n6,List.length_range]
 cases b with
 | false =>
  have m2:=UG G (m := .plus) (b:=false) false false fun x y=>X8 false .plus rfl x y
  have m3:=UG G (m := .times) (b:=false) false false fun x y=>X8 false .times rfl x y
  have m4:=V4 (h:=h) (s:=s) (m := .less) (b:=false) fun x y=>X8 false .less rfl x y
  have m5:=V4 (h:=h) (s:=s) (m := .same) (b:=false) fun x y=>X8 false .same rfl x y
  have m7:=V4 (h:=h) (s:=s) (m := .both) (b:=false) fun x y=>X8 false .both rfl x y
  show _=cnt (aD (Y8 h)) (.use nN) (s+1)
  rw [W7,Bt,XX,WC];simp only [List.map_cons,List.map_nil,List.sum_cons,List.sum_nil,two,Qx,XI,Xw];simp only [nK,Bool.false_eq_true,if_false] at m2 m3 n8 ⊢;rw [m4,m5,m7]
  split<;>omega
 | true =>
  have m2:=V4 (h:=h) (s:=s) (m := .plus) (b:=true) fun x y=>X8 true .plus rfl x y
  have m3:=V4 (h:=h) (s:=s) (m := .times) (b:=true) fun x y=>X8 true .times rfl x y
  have m4:=UG G (m := .less) (b:=true) false false fun x y=>X8 true .less rfl x y
  have m5:=UG G (m := .same) (b:=true) false false fun x y=>X8 true .same rfl x y
  have m7:=UG G (m := .both) (b:=true) true true fun x y=>X8 true .both rfl x y
  have m6:=G s (Nat.le_refl _) true
  show _=cnt (aD (Y8 h)) (.use nR) (s+1)
  rw [W7,Bu,XY,WC];simp only [List.map_cons,List.map_nil,List.sum_cons,List.sum_nil,two,XI];simp only [nK,Bool.false_eq_true,if_false,if_true] at m4 m5 m6 m7 n8 ⊢;rw [m2,m3];omega
theorem YhG (h:Nat):∀ s,GK h s:=Mj (fun b=>by cases b<;>(show (0:Int)=cnt _ (.use _) 0;rw [WD])) fun s G=>YgP G
theorem W8 (h s:Nat):(tms h (s+1)).length=(wc h s).toNat+(if s=0 then 1 else 0)+5*((List.range (s+1)).map fun f=>(tms h f).length*(tms h (s - f)).length).sum+(tms h s).length+((List.range (s+1)).map fun f=>(tms h f).length*((List.range (s - f+1)).map fun e=>(tms h e).length*(tms h (s - f - e)).length).sum).sum:=by
 have b:∀ m,(bn (tms h) m s).length=((List.range (s+1)).map fun f=>(tms h f).length*(tms h (s - f)).length).sum:=fun m=>by
  unfold bn;rw [UZ];simp only [V3]
 have p:∀ t,(eZ (tms h) t).length=((List.range (t+1)).map fun f=>(tms h f).length*(tms h (t - f)).length).sum:=fun t=>by
  unfold eZ;rw [UZ];simp only [V3]
 have w:(wn (tms h) s).length=((List.range (s+1)).map fun f=>(tms h f).length*((List.range (s - f+1)).map fun e=>(tms h e).length*(tms h (s - f - e)).length).sum).sum:=by
  unfold wn;rw [UZ];simp only [V3,p]
 have c:(if s=0 then [Tm.here] else []).length=if s=0 then 1 else 0:=by split<;>rfl
 rw [Vp,List.length_flatten];simp only [eF,List.map_cons,List.map_nil,List.sum_cons,List.sum_nil,List.length_map,List.length_range,b,w,c];omega
theorem vA (h s:Nat):(wc h s).toNat<=2^s:=by
 have e:((2^s:Nat):Int)=2^s:=by norm_cast
 rw [Int.toNat_le,e];exact (Ue h s).2
theorem YgQ (h:Nat) {s:Nat} (hs:s<=4):(tms h s).length<=400:=by
 have l0:(tms h 0).length=0:=rfl;have w0:=vA h 0;have w1:=vA h 1;have w2:=vA h 2;have w3:=vA h 3;have l1:=W8 h 0;have r1:List.range 1=[0]:=rfl;have r2:List.range 2=[0,1]:=rfl;have r3:List.range 3=[0,1,2]:=rfl;have r4:List.range 4=[0,1,2,3]:=rfl;simp only [r1,Nat.zero_add,List.map_cons,List.map_nil,List.sum_cons,List.sum_nil,Nat.sub_zero,l0,Nat.mul_zero,Nat.zero_mul,Nat.add_zero,if_true] at l1;have l2:=W8 h 1;simp only [r1,r2,Nat.reduceAdd,Nat.reduceSub,List.map_cons,List.map_nil,List.sum_cons,List.sum_nil,l0,Nat.mul_zero,Nat.zero_mul,Nat.add_zero,Nat.zero_add,Nat.one_ne_zero,if_false] at l2;have l3:=W8 h 2;simp only [r1,r2,r3,Nat.reduceAdd,Nat.reduceSub,List.map_cons,List.map_nil,List.sum_cons,List.sum_nil,l0,Nat.mul_zero,Nat.zero_mul,Nat.add_zero,Nat.zero_add,(by decide:¬ (2:Nat)=0),if_false] at l3;have l4:=W8 h 3;simp only [r1,r2,r3,r4,Nat.reduceAdd,Nat.reduceSub,List.map_cons,List.map_nil,List.sum_cons,List.sum_nil,l0,Nat.mul_zero,Nat.zero_mul,Nat.add_zero,Nat.zero_add,(by decide:¬ (3:Nat)=0),if_false] at l4;have b1:(tms h 1).length<=2:=by omega
 have b2:(tms h 2).length<=4:=by omega
 have m11:(tms h 1).length*(tms h 1).length<=4:=Nat.mul_le_mul b1 b1;have b3:(tms h 3).length<=28:=by omega
 have m12:(tms h 1).length*(tms h 2).length<=8:=Nat.mul_le_mul b1 b2;have m21:(tms h 2).length*(tms h 1).length<=8:=Nat.mul_le_mul b2 b1;have af2:(tms h 1).length*((tms h 1).length*(tms h 1).length)<=8:=Nat.mul_le_mul b1 m11;have:s=0\/s=1\/s=2\/s=3\/s=4:=by omega
 rcases this with rfl | rfl | rfl | rfl | rfl<;>omega
theorem Ms (h:Nat):∀ s,0<(tms h (s+1)).length
 | 0=>by rw [W8,if_pos rfl];omega
 | s+1=>by
  have:=Ms h s;rw [W8];omega
theorem Mt {h s:Nat} {r:Int} {d:PyData} (h0:0<=r) (h1:r<cnt (aD (YX h)) (.use nT) s) (hv:Va (aD (YX h)) (.use nT) s r d):∃ x,(tms h s)[r.toNat]?=some x/\d=td x/\MT h s x:=by
 obtain ⟨x,e1,e2⟩:=(QI h s).at_ r d h0 h1 hv;exact ⟨x,e1,e2,Ml h s x (List.mem_of_getElem? e1)⟩
theorem YgR {h s:Nat} {ds:List PyData} (a:tD (aD (YX h)) (.use nT) s ds):ds=(tms h s).map td:=by
 apply List.ext_getElem?
 intro i;by_cases c:i<ds.length
 ·have e:ds[i]?=some ds[i]:=List.getElem?_eq_getElem c
  have hl:=a.len;obtain ⟨x,e1,e2,_⟩:=Mt (r:=(i:Int)) (by omega) (by omega) (a.va i _ e);rw [e,List.getElem?_map,show (tms h s)[i]?=some x from e1,e2];rfl
 ·have hl:=a.len
  have hl2:=(QI h s).len;rw [List.getElem?_eq_none (by omega),List.getElem?_eq_none (by rw [List.length_map];omega)]
inductive qG (K:W.Frag) (m:Nat) (vs:List V) (H:Hp) (Q:VK) (E_:XK):Prop
 | mk (v:V) (x:Tm) (h0:vs=[v]) (h1:Vt H v (td x)) (h2:cZ x) (h3:bf x<=m) (h4:∀ H',Yj H H'->Q (qv (kn x)) H')
theorem Yfv {K:W.Frag} {vs:List V} {H:Hp} {Q:VK} {E:XK} (h:qG K 0 vs H Q E):False:=by
 obtain ⟨v,x,_,_,_,h,_⟩:=h;have:=Wj x;omega
theorem Mu {H:Hp} {m:Mk} {r:V} {us:List V} (h:Arg H m r us) (h1:¬ m = .num) (h2:¬ m = .here) (h3:¬ m = .not):∃ p,r = .ref p/\H p=some (.tup us):=by
 cases m<;>first | exact absurd rfl h1 | exact absurd rfl h2 | exact absurd rfl h3 | skip
 all_goals simp only [Arg,jy,Bool.false_eq_true,false_and,true_and] at h
 all_goals first | exact h.elim | (obtain ⟨p,a,b,e1,e2,rfl⟩:=h;exact ⟨p,e1,e2⟩) | (obtain ⟨p,a,b,c,e1,e2,rfl⟩:=h;exact ⟨p,e1,e2⟩)
theorem QJ (ks ks':List (Option Bool)):PyData.eqv (.list (ks.map qd)) (.list (ks'.map qd))=decide (ks=ks'):=by rw [PyData.eqv,UA]
theorem WX {K:W.Frag} {H:Hp} {D:Addr} (ks:List (Option Bool)) (h:H D=some (.lst (ks.map qv))):Den K H (.ref D) (.list (ks.map qd)) := .lst (ao.of h) (UV ks)
theorem vB (ks:List (Option Bool)):(PyData.list (ks.map qd)).depth<=64:=by rw [PyData.depth];have:=Bk ks;omega
theorem gA {k:Nat} {Z6 Z5 Z1 Z2 Z4 Z3 Z0:Addr} (R:g.Raw "_law_kind" "_law_kind" yO ["_law_term"]) (qH:g.Fn k "_law_kind" ["_law_term"] (qG g.K m)) (aR:g.mg "list"=none):g.Fn (k+1) "_law_kind" ["_law_term"] (qG g.K (m+1)):=by
 refine R.fn pP (fun vs H Q E h=>by obtain ⟨v,x,rfl,hv,hok,hdp,q⟩:=h;rfl) fun f_ cdv A outer s H vs Q E hr h=>?_
 obtain ⟨v,x,rfl,hv,hok,hdp,q⟩:=h;refine ⟨_,(@Ye _ _ _ _ _ (@Yz _ _ (1) _ _ _ _ pP.nd rfl (.inl rfl) (@Yo _ _ _ _ _ _ _ Ys (pv 0) Yh (fun _ _=>rfl)) (by rfl) (by first | exact .inl rfl | exact .inr rfl | assumption)) (@Ye _ _ _ _ _ (@Yy _ _ _ _ _ _ _ _ (@Vq _ _ _ _ _ _ _ (@Yl _ _ _ _ _ _ _ _ YC (pv 1) Yk (Yn _)) (@Vc _ _ _ _ (@Yl _ _ _ _ _ _ _ _ YC (pv 1) Yk (Yn _)))).pt (@Yf _ _ _ (@Ym _ _ _ _ Yk)) Yq) (@Ye _ _ _ _ _ (@Yz _ _ (2) _ _ _ _ pP.nd rfl (.inl rfl) (@Y5 _ _ _ _ (@Ya _ _ _ _ _ (@Yo _ _ _ _ _ _ _ Ys (pv 0) Yh (fun _ _=>rfl)) Yb (by rfl))) (by rfl) (by first | exact .inl rfl | exact .inr rfl | assumption)) (@Ye _ _ _ _ _ (@Yy _ _ _ _ _ _ _ _ (@Yl _ _ _ _ _ _ _ _ V7 (pv 1) Yk (Yn _)) (@Yf _ _ _ (@Yz _ _ (2) _ _ _ _ pP.nd rfl (.inl rfl) (@Vz _ _ _ _ _ _ _ _ _ _ aR Vg (@Ya _ _ _ _ _ (@Yo _ _ _ _ _ _ _ Ys (pv 0) Yh (fun _ _=>rfl)) Yb (by rfl)) (by decide +kernel) (by rfl) (by rfl) (by decide) (by decide) (by rfl) (by rfl)) (by rfl) (by first | exact .inl rfl | exact .inr rfl | assumption))) Yq) (@Ye _ _ _ _ _ (@QS _ (3) _ _ _ _ _ _ _ _ _ ([none]) ((["_law_each"]:List Str)) _ (YG 0) _ _ pP.nd rfl (.inl rfl) (.own .nil) rfl (@Xo _ _ _ _ (pv 2)) (fun cl C s₀ H₀ fp pn=>(@YK _ _ (0) _ (show List.Nodup (["_law_each"]:List Str) by decide +kernel) rfl (.inl rfl) (.inr rfl))) (fun cl C s₀ H₀ fp pn=>Xc) (fun cl C s₀ H₀ fp pn=>(@YA _ _ _ _ _ _ _ _ _ _ _ _ qH hr (@Ya _ _ _ _ _ (pv 0) Yb (by rfl)) (by omega) (by rfl) (by rfl) (by decide) (by rfl) (by rfl))) (by intro x hx;simp at hx) (by rfl) (by decide) (by decide +kernel) (by intro _;rfl) (by rfl) (by first | exact .inl rfl | exact .inr rfl | assumption)) (@Ye _ _ _ _ _ (@Yy _ _ _ _ _ _ _ _ (@XE _ _ _ _ _ _ _ (@Yl _ _ _ _ _ _ _ _ Xt (pv 1) (@Yu _ _ _ _ _ (@Ya _ _ _ _ _ Yk (@Ya _ _ _ _ _ Yk Yb (by rfl)) (by rfl))) rfl) (@XD _ _ _ _ (@Yl _ _ _ _ _ _ _ _ (Wu hr.units) (pv 3) (@Y5 _ _ _ _ (@Ya _ _ _ _ _ Yk (@Ya _ _ _ _ _ Yk Yb (by rfl)) (by rfl))) (Yn _)))).pt (@Yf _ _ _ (@Ym _ _ _ _ Yk)) Yq) (@Ye _ _ _ _ _ (@Yy _ _ _ _ _ _ _ _ (@XE _ _ _ _ _ _ _ (@Yl _ _ _ _ _ _ _ _ Xt (pv 1) (@Yu _ _ _ _ _ (@Ya _ _ _ _ _ Yk (@Ya _ _ _ _ _ Yk Yb (by rfl)) (by rfl))) rfl) (@XD _ _ _ _ (@Yl _ _ _ _ _ _ _ _ (Wu hr.units) (pv 3) (@Y5 _ _ _ _ (@Ya _ _ _ _ _ Yk (@Ya _ _ _ _ _ Yk Yb (by rfl)) (by rfl))) (Yn _)))).pt (@Yf _ _ _ (@Ym _ _ _ _ Yk)) Yq) (@Ye _ _ _ _ _ (@Yy _ _ _ _ _ _ _ _ (@Vq _ _ _ _ _ _ _ (@XE _ _ _ _ _ _ _ (@Yl _ _ _ _ _ _ _ _ YC (pv 1) Yk (Yn _)) (@XD _ _ _ _ (@Yl _ _ _ _ _ _ _ _ (Wu hr.units) (pv 3) (@Y5 _ _ _ _ (@Ya _ _ _ _ _ Yk Yb (by rfl))) (Yn _)))).pt (@Vc _ _ _ _ (@XE _ _ _ _ _ _ _ (@Yl _ _ _ _ _ _ _ _ YC (pv 1) Yk (Yn _)) (@XD _ _ _ _ (@Yl _ _ _ _ _ _ _ _ (Wu hr.units) (pv 3) (@Y5 _ _ _ _ (@Ya _ _ _ _ _ Yk (@Ya _ _ _ _ _ Yk Yb (by rfl)) (by rfl))) (Yn _)))).pt)).pt (@Yf _ _ _ (@Ym _ _ _ _ Yk)) Yq) (@Ye _ _ _ _ _ (@Yy _ _ _ _ _ _ _ _ (@XE _ _ _ _ _ _ _ (@Yl _ _ _ _ _ _ _ _ YC (pv 1) Yk (Yn _)) (@XE _ _ _ _ _ _ _ (@Yl _ _ _ _ _ _ _ _ YC (@Yo _ _ _ _ _ _ _ YL (pv 3) Yh (fun _ _=>rfl)) Yk (Yn _)) (@XD _ _ _ _ (@Yl _ _ _ _ _ _ _ _ YC (@Yo _ _ _ _ _ _ _ YL (pv 3) Yh (fun _ _=>rfl)) (@Yo _ _ _ _ _ _ _ YL (pv 3) Yh (fun _ _=>rfl)) (Yn _))))).pt (@Yf _ _ _ (@Ym _ _ _ _ (@Yo _ _ _ _ _ _ _ YL (pv 3) Yh (fun _ _=>rfl)))) Yq) (@Yf _ _ _ (@Ym _ _ _ _ X5))))))))))),?_⟩;obtain ⟨a,r,us,rfl,ha,hg,hl,hin⟩:=Bj hok hv;have h3:(inn x).length<=3:=by cases x<;>simp [inn]
 rw [K1] at q
 refine Yv fun R rr=>?_
 walk_at "rd";refine ⟨_,au.of ha,_,rfl,rr _ _ (Yv fun R rr=>?_)⟩;walk_at "rd";walk_at "sd";refine Y6 (fun c=>?_) (fun c=>?_)
 ·have:=q H (.refl H)
  rw [show kb (bG x) _=some false by rw [c];rfl] at this
  exact this
 refine Y6 (fun c'=>?_) (fun c'=>rr _ _ (Yv fun R rr=>?_))
 ·have:=q H (.refl H)
  rw [show kb (bG x) _=some false by rw [c'];rfl] at this
  exact this
 walk_at "rd";refine ⟨_,au.of ha,_,rfl,few (by decide),fun I gI=>rr _ _ (Yv fun R rr=>?_)⟩;have s1:=Yj.aj gI (.lst [r]);have key:∀ I' H1,Yj H H1->H1 I'=some (.lst us)->R [some (.ref a),some (.str (ms (bG x))),some (.ref I'),none] H1:=fun I' H1 s1 hI=>by
  refine rr _ _ (Yv fun R rr=>?_);refine VC (K:=g.K) (xs:=us) (((inn x).map kn).map qv) (fun R r'=>by walk_at "rd";exact r' I' H1 (.refl H1) (ao.of hI)) (by rw [List.length_map,List.length_map,hl]) (by omega) ?_ ?_
  ·intro i v y H' hv hy sm' R rr
   rw [List.getElem?_map,List.getElem?_map] at hy
   obtain ⟨z,hz,rfl⟩:=Option.map_eq_some_iff.mp hy;obtain ⟨w,hw,rfl⟩:=Option.map_eq_some_iff.mp hz;have hm:=List.mem_of_getElem? hw;have:=Q4 hm;walk_at "rd";exact ⟨v,w,rfl,(hin i v w hv hw).same (s1.trans sm'),Q5 hok hm,by omega,fun aK s''=>rr aK s''⟩
  ·intro D H2 hD s2 hd
   have sH:=s1.trans s2;have mV:bG x = .when->((inn x).map kn).length=3:=fun e=>by
    rw [List.length_map]
    cases x<;>simp only [bG] at e
    ·cases e
    ·cases e
    ·subst e;exact absurd hok.1 (by decide)
    ·cases e
    ·rfl
   have c1:¬ (bG x = .num\/bG x = .here):=fun z=>z.elim c c'
   generalize (inn x).map kn=ks at hd q mV;generalize bG x=mm at q mV c1 rr ⊢;refine rr _ _ (Yv fun R rr=>?_)
   suffices nx:∀ H3,Yj H2 H3->¬ ((mm = .plus\/mm = .times)/\ks=[some false,some false])->R [some (.ref a),some (.str (ms mm)),some (.ref I'),some (.ref D)] H3 by
    walk_at "rd";walk_at "sd";refine ⟨few (by decide),fun p hp=>⟨_,.inr (au.of Yd),rfl,rfl,?_⟩⟩;have s3:=Yj.aj hp (.tup [V.str (ms Mk.plus),V.str (ms Mk.times)]);rw [qy];refine Y6 (fun d1=>⟨few (by decide),fun p2 hp2=>?_⟩) fun d1=>nx _ s3 fun z=>by simp [z.1] at d1
    have s4:=s3.trans (.aj hp2 (.lst [qv (some false),qv (some false)]));refine ⟨_,WX ks (s4 _ _ hd),_,WX [some false,some false] Yd,vB ks,?_⟩;rw [QJ];refine Y6 (fun d2=>?_) fun d2=>nx _ s4 fun z=>by simp [z.2] at d2
    have:=q _ (sH.trans s4);rw [show kb mm ks=some false by rw [of_decide_eq_true d2];rcases of_decide_eq_true d1 with rfl | rfl<;>rfl] at this
    exact this
   intro H3 s3 n6;refine rr _ _ (Yv fun R rr=>?_)
   suffices nx:∀ H4,Yj H2 H4->¬ ((mm = .less\/mm = .same)/\ks=[some false,some false])->R [some (.ref a),some (.str (ms mm)),some (.ref I'),some (.ref D)] H4 by
    walk_at "rd";walk_at "sd";refine ⟨few (by decide),fun p hp=>⟨_,.inr (au.of Yd),rfl,rfl,?_⟩⟩;have s4:=s3.trans (.aj hp (.tup [V.str (ms Mk.less),V.str (ms Mk.same)]));rw [qy];refine Y6 (fun d1=>⟨few (by decide),fun p2 hp2=>?_⟩) fun d1=>nx _ s4 fun z=>by simp [z.1] at d1
    have s5:=s4.trans (.aj hp2 (.lst [qv (some false),qv (some false)]));refine ⟨_,WX ks (s5 _ _ hd),_,WX [some false,some false] Yd,vB ks,?_⟩;rw [QJ];refine Y6 (fun d2=>?_) fun d2=>nx _ s5 fun z=>by simp [z.2] at d2
    have:=q _ (sH.trans s5);rw [show kb mm ks=some true by rw [of_decide_eq_true d2];rcases of_decide_eq_true d1 with rfl | rfl<;>rfl] at this
    exact this
   intro H4 s4 n7;refine rr _ _ (Yv fun R rr=>?_)
   suffices nx:∀ H5,Yj H2 H5->¬ (mm = .not/\ks=[some true])->¬ (mm = .both/\ks=[some true,some true])->R [some (.ref a),some (.str (ms mm)),some (.ref I'),some (.ref D)] H5 by
    walk_at "rd";walk_at "sd";refine Y6 (fun d1=>⟨few (by decide),fun p hp=>?_⟩) (fun d1=>Y6 (fun d2=>⟨few (by decide),fun p hp=>?_⟩) fun d2=>nx _ s4 (fun z=>d1 z.1) fun z=>d2 z.1)
    ·have s5:=s4.trans (.aj hp (.lst [qv (some true)]))
     refine ⟨_,WX ks (s5 _ _ hd),_,WX [some true] Yd,vB ks,?_⟩;rw [QJ];refine Y6 (fun d3=>?_) fun d3=>XG (by rw [d1];decide) (nx _ s5 (fun z=>by simp [z.2] at d3) fun z=>by rw [d1] at z;cases z.1)
     have:=q _ (sH.trans s5);rw [show kb mm ks=some true by rw [of_decide_eq_true d3,d1];rfl] at this
     exact this
    ·have s5:=s4.trans (.aj hp (.lst [qv (some true),qv (some true)]))
     refine ⟨_,WX ks (s5 _ _ hd),_,WX [some true,some true] Yd,vB ks,?_⟩;rw [QJ];refine Y6 (fun d3=>?_) fun d3=>nx _ s5 (fun z=>d1 z.1) fun z=>by simp [z.2] at d3
     have:=q _ (sH.trans s5);rw [show kb mm ks=some true by rw [of_decide_eq_true d3,d2];rfl] at this
     exact this
   intro H5 s5 n8 n9;refine rr _ _ ?_;walk_at "rd";walk_at "sd";have iQ:=s5 _ _ hd;have non:(∀ a b c,mm = .when->ks=[a,b,c]->¬ (a=some true/\b=c))->Q V.non H5:=fun h6=>by
    have:=q _ (sH.trans s5);rw [K5 c1 n6 n7 n8 n9 fun z a b c e=>h6 a b c z e] at this
    exact this
   refine Y6 (fun d1=>?_) fun d1=>non fun _ _ _ z=>(d1 z).elim
   obtain ⟨k1,k2,k3,rfl⟩:∃ a b c,ks=[a,b,c]:=by
    match ks,mV d1 with
    | [a,b,c],_=>exact ⟨a,b,c,rfl⟩
   refine ⟨_,ao.of iQ,_,rfl,?_,?_⟩
   ·rcases k1 with _ | _ | _<;>rfl
   rw [KZ];simp only [Vk];refine Y6 (fun d2=>⟨_,ao.of iQ,_,rfl,_,ao.of iQ,_,rfl,?_,?_⟩) fun d2=>non fun a b d _ e z=>by cases e;exact d2 z.1
   ·rcases k2 with _ | _ | _<;>rcases k3 with _ | _ | _<;>rfl
   simp only [Vk];refine Y6 (fun d3=>⟨_,ao.of iQ,_,rfl,?_⟩) fun d3=>non fun a b d _ e z=>by cases e;exact d3 z.2
   have:=q _ (sH.trans s5);rw [d1,show kb .when [k1,k2,k3]=k2 from if_pos ⟨d2,d3⟩] at this
   exact this
 walk_at "rd";walk_at "sd";refine Y6 (fun c2=>?_) (fun c2=>?_)
 ·obtain ⟨p,rfl,hp⟩:=Mu hg c c' c2
  exact ⟨_,au.of (s1 _ _ ha),_,rfl,p,rfl,_,.inr (au.of (s1 _ _ hp)),fun I' gI'=>key I' _ (s1.trans (.aj gI' _)) Yd⟩
 ·have e:bG x = .not:=Classical.not_not.mp c2
  rw [e] at hg
  have:us=[r]:=hg;exact key I _ s1 (by rw [Yd,this])
inductive vC (K:W.Frag) (m:Nat) (vs:List V) (H:Hp) (Q:VK) (E_:XK):Prop
 | mk (v:V) (x:Tm) (h:Nat) (h0:vs=[v,.int (h:Nat)]) (h1:Vt H v (td x)) (h2:cZ x) (h3:rng h x) (h4:bf x<=m) (h5:∀ H',Yj H H'->Q (.bl true) H')
theorem Yfw {K:W.Frag} {vs:List V} {H:Hp} {Q:VK} {E:XK} (h:vC K 0 vs H Q E):False:=by
 obtain ⟨v,x,h,_,_,_,_,hd,_⟩:=h;have:=Wj x;omega
theorem ZS {k:Nat} {Z6 Z5 Z1 Z2 Z4 Z3 Z0:Addr} (R:g.Raw "_law_is_term" "_law_is_term" yP ["_law_term","_law_high"]) (vD:g.Fn k "_law_is_term" ["_law_term","_law_high"] (vC g.K m)) (bT:g.mg "all"=none) (aY:g.mg "bool"=none) (bC:g.mg "int"=none) (Zq:g.mg "isinstance"=none) (aF:g.mg "len"=none) (bF:g.mg "str"=none) (Zv:g.mg "tuple"=none):g.Fn (k+1) "_law_is_term" ["_law_term","_law_high"] (vC g.K (m+1)):=by
 refine R.fn yQ (fun vs H Q E h=>by obtain ⟨v,x,h,rfl,hv,hok,fK,hdp,q⟩:=h;rfl) fun f_ cdv A outer s H vs Q E hr h=>?_
 obtain ⟨v,x,h,rfl,hv,hok,fK,hdp,q⟩:=h;refine ⟨_,(@Ye _ _ _ _ _ (@Yy _ _ _ _ _ _ _ _ (@Vq _ _ _ _ _ _ _ (@WL _ _ _ _ (@Vb _ _ _ (@YS _ _ _ _ _ _ _ _ _ _ Zq Y7 (@Ya _ _ _ _ _ (pv 0) (@Ya _ _ _ _ _ (@Wt _ _ _ _ ("tuple") Zv (by decide +kernel) (by rfl) (by rfl) (by decide) (by decide)) Yb (by rfl)) (by rfl)) (by decide +kernel) (by rfl) (by rfl) (by decide) (by decide) (by rfl) (by rfl)) (by intro _;rfl))) (@Vq _ _ _ _ _ _ _ (@Yl _ _ _ _ _ _ _ _ V7 (@YS _ _ _ _ _ _ _ _ _ _ aF YH (@Ya _ _ _ _ _ (pv 0) Yb (by rfl)) (by decide +kernel) (by rfl) (by rfl) (by decide) (by decide) (by rfl) (by rfl)) Yh (Yn _)) (@Vc _ _ _ _ (@WL _ _ _ _ (@Vb _ _ _ (@YS _ _ _ _ _ _ _ _ _ _ Zq Y7 (@Ya _ _ _ _ _ (@Yo _ _ _ _ _ _ _ Ys (pv 0) Yh (fun _ _=>rfl)) (@Ya _ _ _ _ _ (@Wt _ _ _ _ ("str") bF (by decide +kernel) (by rfl) (by rfl) (by decide) (by decide)) Yb (by rfl)) (by rfl)) (by decide +kernel) (by rfl) (by rfl) (by decide) (by decide) (by rfl) (by rfl)) (by intro _;rfl)))))).pt (@Yf _ _ _ (@Ym _ _ _ _ Wk)) Yq) (@Ye _ _ _ _ _ (@Yz _ _ (2) _ _ _ _ yQ.nd rfl (.inl rfl) (@Yo _ _ _ _ _ _ _ Ys (pv 0) Yh (fun _ _=>rfl)) (by rfl) (by first | exact .inl rfl | exact .inr rfl | assumption)) (@Ye _ _ _ _ _ (@Yy _ _ _ _ _ _ _ _ (@Yl _ _ _ _ _ _ _ _ YC (pv 2) Yk (Yn _)) (@Yf _ _ _ (@Ym _ _ _ _ (@WM _ _ _ _ _ _ _ (@YS _ _ _ _ _ _ _ _ _ _ Zq Y7 (@Ya _ _ _ _ _ (@Yo _ _ _ _ _ _ _ Ys (pv 0) Yh (fun _ _=>rfl)) (@Ya _ _ _ _ _ (@Wt _ _ _ _ ("int") bC (by decide +kernel) (by rfl) (by rfl) (by decide) (by decide)) Yb (by rfl)) (by rfl)) (by decide +kernel) (by rfl) (by rfl) (by decide) (by decide) (by rfl) (by rfl)) (@WM _ _ _ _ _ _ _ (@Fi _ _ _ _ (@YS _ _ _ _ _ _ _ _ _ _ Zq Y7 (@Ya _ _ _ _ _ (@Yo _ _ _ _ _ _ _ Ys (pv 0) Yh (fun _ _=>rfl)) (@Ya _ _ _ _ _ (@Wt _ _ _ _ ("bool") aY (by decide +kernel) (by rfl) (by rfl) (by decide) (by decide)) Yb (by rfl)) (by rfl)) (by decide +kernel) (by rfl) (by rfl) (by decide) (by decide) (by rfl) (by rfl))) (@Vd _ _ _ _ _ (@FW _ _ _ _ _ _ _ _ _ _ _ _ WH WH Yh (@Yo _ _ _ _ _ _ _ Ys (pv 0) Yh (fun _ _=>rfl)) (pv 1) (by with_unfolding_all rfl))))))) Yq) (@Ye _ _ _ _ _ (@Yy _ _ _ _ _ _ _ _ (@Yl _ _ _ _ _ _ _ _ YC (pv 2) Yk (Yn _)) (@Yf _ _ _ (@Ym _ _ _ _ (@WM _ _ _ _ _ _ _ (@YS _ _ _ _ _ _ _ _ _ _ Zq Y7 (@Ya _ _ _ _ _ (@Yo _ _ _ _ _ _ _ Ys (pv 0) Yh (fun _ _=>rfl)) (@Ya _ _ _ _ _ (@Wt _ _ _ _ ("tuple") Zv (by decide +kernel) (by rfl) (by rfl) (by decide) (by decide)) Yb (by rfl)) (by rfl)) (by decide +kernel) (by rfl) (by rfl) (by decide) (by decide) (by rfl) (by rfl)) (@Vd _ _ _ _ _ (@X1 _ _ _ _ _ _ _ _ (Wu hr.units) (@Yo _ _ _ _ _ _ _ Ys (pv 0) Yh (fun _ _=>rfl)) (@Yu _ _ _ _ _ Yb) (Yn _)))))) Yq) (@Ye _ _ _ _ _ (@Yy _ _ _ _ _ _ _ _ (@Yl _ _ _ _ _ _ _ _ YC (pv 2) Yk (Yn _)) (@Yf _ _ _ (@Ym _ _ _ _ (@YA _ _ _ _ _ _ _ _ _ _ _ _ vD hr (@Ya _ _ _ _ _ (@Yo _ _ _ _ _ _ _ Ys (pv 0) Yh (fun _ _=>rfl)) (@Ya _ _ _ _ _ (pv 1) Yb (by rfl)) (by rfl)) (by omega) (by rfl) (by rfl) (by decide) (by rfl) (by rfl)))) Yq) (@Ye _ _ _ _ _ (@Yz _ _ (3) _ _ _ _ yQ.nd rfl (.inl rfl) (@YR _ _ _ _ _ _ _ _ Wp Yh (@Vz _ _ _ _ _ _ _ _ _ _ bC Rm (@Ya _ _ _ _ _ (@X1 _ _ _ _ _ _ _ _ YC (pv 2) Yk (Yn _)) Yb (by rfl)) (by decide +kernel) (by rfl) (by rfl) (by decide) (by decide) (by rfl) (by rfl))) (by rfl) (by first | exact .inl rfl | exact .inr rfl | assumption)) (@Ye _ _ _ _ _ (@Yy _ _ _ _ _ _ _ _ (@Vq _ _ _ _ _ _ _ (@Yl _ _ _ _ _ _ _ _ R9 (pv 2) (@Yu _ _ _ _ _ (@Ya _ _ _ _ _ Yk (@Ya _ _ _ _ _ Yk (@Ya _ _ _ _ _ Yk (@Ya _ _ _ _ _ Yk (@Ya _ _ _ _ _ Yk (@Ya _ _ _ _ _ Yk Yb (by rfl)) (by rfl)) (by rfl)) (by rfl)) (by rfl)) (by rfl))) rfl) (@Vc _ _ _ _ (@WL _ _ _ _ (@Vb _ _ _ (@YS _ _ _ _ _ _ _ _ _ _ Zq Y7 (@Ya _ _ _ _ _ (@Yo _ _ _ _ _ _ _ Ys (pv 0) Yh (fun _ _=>rfl)) (@Ya _ _ _ _ _ (@Wt _ _ _ _ ("tuple") Zv (by decide +kernel) (by rfl) (by rfl) (by decide) (by decide)) Yb (by rfl)) (by rfl)) (by decide +kernel) (by rfl) (by rfl) (by decide) (by decide) (by rfl) (by rfl)) (by intro _;rfl))))).pt (@Yf _ _ _ (@Ym _ _ _ _ Wk)) Yq) (@Yf _ _ _ (@Ym _ _ _ _ (@WM _ _ _ _ _ _ _ (@X1 _ _ _ _ _ _ _ _ YC (@YS _ _ _ _ _ _ _ _ _ _ aF YH (@Ya _ _ _ _ _ (@Yo _ _ _ _ _ _ _ Ys (pv 0) Yh (fun _ _=>rfl)) Yb (by rfl)) (by decide +kernel) (by rfl) (by rfl) (by decide) (by decide) (by rfl) (by rfl)) (pv 3) (Yn _)) (@Vd _ _ _ _ _ (@YS _ _ _ _ _ _ _ _ _ _ bT (QP rfl) (@Ya _ _ _ _ _ (@X2 _ _ _ _ _ _ _ ([none,some 1]) ((["_law_inner","_law_high"]:List Str)) _ (YG 0) _ _ (.own (.cap (i:=1) rfl rfl (by first | exact .inl rfl | exact .inr rfl) .nil)) rfl (@Qk _ _ _ _ (@Yo _ _ _ _ _ _ _ Ys (pv 0) Yh (fun _ _=>rfl))) (fun cl C s₀ H₀ fp pn=>(@YK _ _ (0) _ (show List.Nodup (["_law_inner","_law_high"]:List Str) by decide +kernel) rfl (.inl rfl) (.inr rfl))) (fun cl C s₀ H₀ fp pn=>Xc) (fun cl C s₀ H₀ fp pn=>(@YA _ _ _ _ _ _ _ _ _ _ _ _ vD hr (@Ya _ _ _ _ _ (pv 0) (@Ya _ _ _ _ _ (pv 1) Yb (by rfl)) (by rfl)) (by omega) (by rfl) (by rfl) (by decide) (by rfl) (by rfl))) (by intro x hx;simp at hx;first | (subst hx;exact .inl rfl) | (rcases hx with rfl | rfl<;>exact .inl rfl) | (rcases hx with rfl | rfl | rfl<;>exact .inl rfl) | (rcases hx with rfl | rfl | rfl | rfl<;>exact .inl rfl) | (rcases hx with rfl | rfl | rfl | rfl | rfl<;>exact .inl rfl)) (by rfl) (by decide) (by decide +kernel) (by intro _;rfl)) Yb (by rfl)) (by decide +kernel) (by rfl) (by rfl) (by decide) (by decide) (by rfl) (by rfl))))))))))))),?_⟩;obtain ⟨a,r,us,rfl,ha,hg,hl,hin⟩:=Bj hok hv;have h3:(inn x).length<=3:=by cases x<;>simp [inn]
 refine Yv fun R rr=>?_
 walk_at "rd";refine ⟨_,rfl,_,.tup ha,true,rfl,?_⟩;walk_at "rd";refine ⟨_,.inr (au.of ha),?_⟩;rw [if_neg (by simp)];refine ⟨_,au.of ha,_,rfl,_,rfl,_,.str _,true,rfl,?_⟩;walk_at "rd";refine rr _ _ (Yv fun R rr=>?_);walk_at "rd";refine ⟨_,au.of ha,_,rfl,rr _ _ ?_⟩;by_cases hN:bG x = .num
 ·obtain ⟨i,rfl⟩:∃ i,x = .num i:=by
   cases x with
   | num i=>exact ⟨i,rfl⟩
   | bin m' p s=>have:=hok.1;rw [show m' = .num from hN] at this;cases this
   | _=>cases hN
  obtain ⟨a',u,e,ha',hu⟩:=X7 hv
  cases V.ref.inj e
  rw [ha] at ha'
  cases ha'
  cases Bd hu
  refine take rfl rfl ?_;walk_at "rd";refine ⟨_,au.of ha,_,rfl,_,rfl,_,.int i,true,rfl,Qb ⟨_,au.of ha,_,rfl,_,rfl,_,.int i,false,rfl,WY rfl ⟨_,au.of ha,_,rfl,_,rfl,WY fK.1 ⟨_,rfl,?_⟩⟩⟩⟩;rw [decide_eq_true fK.2];exact q H (.refl H)
 by_cases hH:bG x = .here
 ·obtain rfl:x = .here:=by
   cases x with
   | here=>rfl
   | bin m' p s=>have:=hok.1;rw [show m' = .here from hH] at this;cases this
   | _=>cases hH
  obtain ⟨a',u,e,ha',hu⟩:=X7 hv
  cases V.ref.inj e
  rw [ha] at ha'
  cases ha'
  obtain ⟨b,vs,rfl,hb,hvs⟩:=VV hu
  cases hvs
  refine YW rfl (by decide +kernel) (take rfl rfl ?_);walk_at "rd";refine ⟨_,au.of ha,_,rfl,_,rfl,_,.tup hb,true,rfl,Qb ⟨_,au.of ha,_,rfl,few (by decide),fun p hp=>?_⟩⟩;have sp:=Yj.aj hp (.tup []);exact ⟨_,.tup (au.of (sp _ _ hb)) .nil,_,.tup (au.of Yd) .nil,by decide,q _ sp⟩
 by_cases hT:bG x = .not
 ·obtain ⟨p,rfl⟩:∃ p,x = .not p:=by
   cases x with
   | not p=>exact ⟨p,rfl⟩
   | bin m' p s=>have:=hok.1;rw [show m' = .not from hT] at this;cases this
   | _=>cases hT
  have hu:us=[r]:=hg;subst hu;have n1:¬ ms .not=Str.ofString "num":=by decide +kernel
  have n2:¬ ms .not=Str.ofString "here":=by decide +kernel
  refine YW rfl n1 (YW rfl n2 (take rfl rfl ?_));walk_at "rd";exact ⟨_,au.of ha,_,rfl,r,p,h,rfl,hin 0 r p rfl rfl,hok,fK,by simp only [bf] at hdp;omega,q⟩
 obtain ⟨b,rfl,hb⟩:=Mu hg hN hH hT;have hrs:∀ y∈inn x,rng h y:=fun y hy=>by
  cases x<;>simp only [inn,List.mem_cons,List.not_mem_nil,or_false] at hy<;>simp only [rng] at fK
  ·rcases hy with rfl | rfl
   ·exact fK.1
   ·exact fK.2
  ·subst hy;exact fK
  ·rcases hy with rfl | rfl | rfl
   ·exact fK.1
   ·exact fK.2.1
   ·exact fK.2.2
 have oK:(2+if ms (bG x)=Str.ofString "when" then 1 else 0:Int)=us.length/\(bG x = .plus\/bG x = .times\/bG x = .less\/bG x = .same\/bG x = .both\/bG x = .when):=by
  rw [hl]
  cases x with
  | num i=>exact absurd rfl hN
  | here=>exact absurd rfl hH
  | not p=>exact absurd rfl hT
  | bin m' p s =>
   have hm:=hok.1;refine ⟨?_,by cases m'<;>first | exact absurd hm (by decide) | simp [bG]⟩;rw [if_neg (by show ¬ ms m'=_;cases m'<;>first | decide +kernel | exact absurd hm (by decide))];rfl
  | when p s t=>exact ⟨by rw [if_pos (show ms (bG (.when p s t))=Str.ofString "when" from rfl)];rfl,by simp [bG]⟩
 have hok':=fun y=>Q5 (x:=x) (y:=y) hok
 have hdi:=fun y=>Q4 (x:=x) (y:=y)
 generalize bG x=mm at hN hH hT oK rr ha ⊢;refine YW rfl (fun z=>hN (Eq.mp (Uz _ .num) z)) (YW rfl (fun z=>hH (Eq.mp (Uz _ .here) z)) (YW rfl (fun z=>hT (Eq.mp (Uz _ .not) z)) (Yv fun R rr=>?_)));walk_at "rd";refine .inr (rr _ _ (Yv fun R rr=>?_));rw [oK.1];walk_at "rd";walk_at "sd";refine ⟨few (by decide),fun p hp=>⟨_,.inr (au.of Yd),rfl,rfl,?_⟩⟩;have sp:=Yj.aj hp (.tup [V.str (ms .plus),V.str (ms .times),V.str (ms .less),V.str (ms .same),V.str (ms .both),V.str (ms .when)]);have O5:inV (V.str (ms mm)) [V.str (ms .plus),V.str (ms .times),V.str (ms .less),V.str (ms .same),V.str (ms .both),V.str (ms .when)]=true:=by
  rcases oK.2 with rfl | rfl | rfl | rfl | rfl | rfl<;>(simp only [UU];decide)
 rw [O5];refine XG (by decide) ⟨_,au.of (sp _ _ ha),_,rfl,_,rfl,_,.tup (sp _ _ hb),true,rfl,?_⟩;walk_at "rd";refine rr _ _ ?_;walk_at "rd";refine ⟨_,au.of (sp _ _ ha),_,rfl,b,rfl,_,.inr (au.of (sp _ _ hb)),WY rfl ?_⟩;refine Ye8 (K:=g.K) (xs:=us) ((us.map fun _=>true).map V.bl) (fun R r'=>by walk_at "rd";exact ⟨_,au.of (sp _ _ ha),_,rfl,r' b _ (.refl _) (au.of (sp _ _ hb))⟩) (by rw [List.length_map,List.length_map]) (by omega) ?_ ?_
 ·intro i v y H' hv' hy sm' R rr
  rw [List.getElem?_map,List.getElem?_map,hv'] at hy
  cases Option.some.inj hy
  have hi:=(List.getElem?_eq_some_iff.mp hv').1;have hw:(inn x)[i]?=some ((inn x)[i]'(by omega)):=List.getElem?_eq_getElem _;have hm:=List.mem_of_getElem? hw;have:=hdi _ hm;walk_at "rd";exact ⟨v,_,h,rfl,(hin i v _ hv' hw).same (sp.trans sm'),hok' _ hm,hrs _ hm,by omega,fun aK s''=>rr aK s''⟩
 ·intro D H2 hD s2 hd
  refine ⟨D,rfl,us.map fun _=>true,ao.of hd,?_⟩;rw [show (us.map fun _=>true).all id=true by simp];exact q H2 (sp.trans s2)
inductive ni (K:W.Frag) (vs:List V) (H:Hp) (Q:VK) (E_:XK):Prop
 | mk (B C:Addr) (h:Nat) (c:Int) (h0:vs=[.ref B,.int (h:Nat),.ref C,.int c]) (h1:Xy K H B (YX h)) (h2:H C=some (.lst (Xd (cnt (aD (YX h)) (.use nT)) 8))) (h3:∀ H',Yj H H'->Q (.bl true) H')
theorem U0 (k:Option Bool) (y:Option Bool):pF (qv k) (qv y)=true:=by rcases k with _ | _ | _<;>rcases y with _ | _ | _<;>rfl
theorem BZ (b:Bool):V.str (S (nK b))=qv (some b):=by
 cases b with
 | false=>exact congrArg V.str Bm.symm
 | true=>exact congrArg V.str Bo.symm
theorem Ca (b:Bool):PyData.strOk (S (nK b))=true:=by cases b;exact UW;exact VD
theorem YgS (b:Bool) (x:Tm):(wk b x).isSome=decide (kn x=some b):=by unfold wk;split<;>simp_all
theorem Ydr {k:Nat} {Z6 Z5 Z1 Z2 Z4 Z3 Z0:Addr} (R:g.Raw "_law_one" "_law_one" yR ["_law_raw","_law_high","_law_counts","_law_cell"]) (Bl:g.Fn k "kind_of" ["term"] (vg g.K 10)) (Cd:g.Fn k "kinded_book" ["high"] (jN g.K)) (Ce:g.Fn k "fits" ["book","shape","value"] (m8 g.K 24)) (qI:g.Fn k "size_of" ["book","shape","value"] (KR g.K 24)) (oM:g.Fn k "value_at" ["book","shape","size","number"] (mX g.K (Cs.mk Z0 Z2 Z4 Z1 Z3))) (qH:g.Fn k "_law_kind" ["_law_term"] (qG g.K 10)) (vD:g.Fn k "_law_is_term" ["_law_term","_law_high"] (vC g.K 10)):g.Fn (k+1) "_law_one" ["_law_raw","_law_high","_law_counts","_law_cell"] (ni g.K):=by
 refine R.fn jz (fun vs H Q E h=>by obtain ⟨B,C,h,c,rfl,hB,hC,q⟩:=h;rfl) fun f_ cdv A outer s H vs Q E hr h=>?_
 obtain ⟨B,C,h,c,rfl,hB,hC,q⟩:=h;refine ⟨_,(@Ye _ _ _ _ _ (@Yz _ _ (4) _ _ _ _ jz.nd rfl (.inl rfl) (@YA _ _ _ _ _ _ _ _ _ _ _ _ Cd hr (@Ya _ _ _ _ _ (pv 1) Yb (by rfl)) (by omega) (by rfl) (by rfl) (by decide) (by rfl) (by rfl)) (by rfl) (by first | exact .inl rfl | exact .inr rfl | assumption)) (@Ye _ _ _ _ _ (@Yz _ _ (5) _ _ _ _ jz.nd rfl (.inl rfl) (@YR _ _ _ _ _ _ _ _ Ve (pv 3) Yh) (by rfl) (by first | exact .inl rfl | exact .inr rfl | assumption)) (@Ye _ _ _ _ _ (@Yz _ _ (6) _ _ _ _ jz.nd rfl (.inl rfl) (@Yo _ _ _ _ _ _ _ YL (pv 2) (pv 5) (fun _ _=>rfl)) (by rfl) (by first | exact .inl rfl | exact .inr rfl | assumption)) (@Ye _ _ _ _ _ (@Yy _ _ _ _ _ _ _ _ (@Yl _ _ _ _ _ _ _ _ YC (pv 6) Yh (Yn _)) (@Yf _ _ _ (@Ym _ _ _ _ (@X1 _ _ _ _ _ _ _ _ YC (pv 5) Yh (Yn _)))) Yq) (@Ye _ _ _ _ _ (@Yz _ _ (7) _ _ _ _ jz.nd rfl (.inl rfl) (@YA _ _ _ _ _ _ _ _ _ _ _ _ oM hr (@Ya _ _ _ _ _ (pv 0) (@Ya _ _ _ _ _ (@Yu _ _ _ _ _ (@Ya _ _ _ _ _ Yk (@Ya _ _ _ _ _ Yk Yb (by rfl)) (by rfl))) (@Ya _ _ _ _ _ (pv 5) (@Ya _ _ _ _ _ (@YR _ _ _ _ _ _ _ _ Ve (@YR _ _ _ _ _ _ _ _ Vi (pv 3) Yh) (pv 6)) Yb (by rfl)) (by rfl)) (Yw _ _ _ _ _)) (by rfl)) (by omega) (by rfl) (by rfl) (by decide) (by rfl) (by rfl)) (by rfl) (by first | exact .inl rfl | exact .inr rfl | assumption)) (@Ye _ _ _ _ _ (@Yy _ _ _ _ _ _ _ _ (@WL _ _ _ _ (@Vb _ _ _ (@YA _ _ _ _ _ _ _ _ _ _ _ _ vD hr (@Ya _ _ _ _ _ (pv 7) (@Ya _ _ _ _ _ (pv 1) Yb (by rfl)) (by rfl)) (by omega) (by rfl) (by rfl) (by decide) (by rfl) (by rfl)) (by intro _;rfl))) (@Yf _ _ _ (@Ym _ _ _ _ Wk)) Yq) (@Ye _ _ _ _ _ (@Yz _ _ (8) _ _ _ _ jz.nd rfl (.inl rfl) (@YA _ _ _ _ _ _ _ _ _ _ _ _ qH hr (@Ya _ _ _ _ _ (pv 7) Yb (by rfl)) (by omega) (by rfl) (by rfl) (by decide) (by rfl) (by rfl)) (by rfl) (by first | exact .inl rfl | exact .inr rfl | assumption)) (@Ye _ _ _ _ _ (@Yy _ _ _ _ _ _ _ _ (@Yl _ _ _ _ _ _ _ _ V7 (@YA _ _ _ _ _ _ _ _ _ _ _ _ Bl hr (@Ya _ _ _ _ _ (pv 7) Yb (by rfl)) (by omega) (by rfl) (by rfl) (by decide) (by rfl) (by rfl)) (pv 8) (Yn _)) (@Yf _ _ _ (@Ym _ _ _ _ Wk)) Yq) (@Ye _ _ _ _ _ (@WN _ _ _ _ _ _ _ _ PassesOwn.never rfl (@Xo _ _ _ _ (@Y5 _ _ _ _ (@Ya _ _ _ _ _ Yk (@Ya _ _ _ _ _ Yk Yb (by rfl)) (by rfl)))) (@YK _ _ (9) _ jz.nd rfl (.inl rfl) (by first | exact .inl rfl | exact .inr rfl | assumption)) (@Ye _ _ _ _ _ (@Yy _ _ _ _ _ _ _ _ (@Yl _ _ _ _ _ _ _ _ V7 (@YA _ _ _ _ _ _ _ _ _ _ _ _ Ce hr (@Ya _ _ _ _ _ (pv 4) (@Ya _ _ _ _ _ (@Yu _ _ _ _ _ (@Ya _ _ _ _ _ Yk (@Ya _ _ _ _ _ (pv 9) Yb (by rfl)) (by rfl))) (@Ya _ _ _ _ _ (pv 7) Yb (by rfl)) (Yw _ _ _ _ _)) (by rfl)) (by omega) (by rfl) (by rfl) (by decide) (by rfl) (by rfl)) (@X1 _ _ _ _ _ _ _ _ YC (pv 8) (pv 9) (Yn _)) (Yn _)) (@Yf _ _ _ (@Ym _ _ _ _ Wk)) Yq) (@Yf _ _ _ (@Yy _ _ _ _ _ _ _ _ (@XE _ _ _ _ _ _ _ (@Yl _ _ _ _ _ _ _ _ YC (pv 8) (pv 9) (Yn _)) (@XD _ _ _ _ (@Yl _ _ _ _ _ _ _ _ V7 (@YA _ _ _ _ _ _ _ _ _ _ _ _ qI hr (@Ya _ _ _ _ _ (pv 4) (@Ya _ _ _ _ _ (@Yu _ _ _ _ _ (@Ya _ _ _ _ _ Yk (@Ya _ _ _ _ _ (pv 9) Yb (by rfl)) (by rfl))) (@Ya _ _ _ _ _ (pv 7) Yb (by rfl)) (Yw _ _ _ _ _)) (by rfl)) (by omega) (by rfl) (by rfl) (by decide) (by rfl) (by rfl)) (pv 5) (Yn _)))).pt (@Yf _ _ _ (@Ym _ _ _ _ Wk)) Yq))) (by intro _;rfl)) (@Yf _ _ _ (@Ym _ _ _ _ Wk))))))))))),?_⟩;refine Yv fun R rr=>?_
 walk_at "rd";refine ⟨h,rfl,fun B2 H1 s1 hB2=>rr _ _ (Yv fun R rr=>?_)⟩;walk_at "rd";obtain ⟨s,hs1,hs2⟩:=Iu c (j:=8) (by decide);refine ⟨by decide,?_⟩;rw [hs1];refine rr _ _ (Yv fun R rr=>?_);walk_at "rd";refine ⟨_,ao.of (s1 _ _ hC),_,Xs _ (by omega),rr _ _ (Yv fun R rr=>?_)⟩;have hlen:=(QI h s).len;walk_at "rd";refine Y6 (fun e0=>?_) (fun e0=>rr _ _ (Yv fun R rr=>?_))
 ·have:s=0:=by
   cases s with
   | zero=>rfl
   | succ s=>have:=Ms h s;omega
  subst this;exact q H1 s1
 have c0:0<cnt (aD (YX h)) (.use nT) s:=by omega
 walk_at "rd";refine ⟨few (by decide),fun p hp=>⟨VB (by decide) (by decide),c0,?_⟩⟩;have sp:=Yj.aj hp (.tup [.str "use",.str "term"]);refine ⟨YX h,B,p,.use nT,s,_,rfl,hB.keep' (s1.trans sp),QF (au.of (by rw [Yd,vh])) WK,vp h,Q9 h,by simp [wt],by simp [dep],by omega,Int.emod_nonneg _ (by omega),Int.emod_lt_of_pos _ c0,fun v d H3 s3 hv hva=>rr _ _ (Yv fun R rr=>?_)⟩;obtain ⟨x,_,rfl,mt⟩:=Mt (Int.emod_nonneg _ (by omega)) (Int.emod_lt_of_pos _ c0) hva;have Cg:=(s1.trans sp).trans s3;have dp:=mt.dp;walk_at "rd";refine ⟨v,x,h,rfl,hv,mt.ok,mt.rg,by omega,fun H4 s4=>?_⟩;walk_at "rd";refine rr _ _ (Yv fun R rr=>?_);walk_at "rd";refine ⟨v,x,rfl,hv.same s4,mt.ok,by omega,fun H5 s5=>rr _ _ (Yv fun R rr=>?_)⟩;walk_at "rd";refine ⟨v,x,rfl,hv.same (s4.trans s5),mt.ok,by omega,fun H6 s6=>?_⟩;walk_at "rd";have s16:=Cg.trans (s4.trans (s5.trans s6));have Mv:=hv.same (s4.trans (s5.trans s6));have Mw:=hB2.keep' (sp.trans (s3.trans (s4.trans (s5.trans s6))));refine ⟨U0 _ _,rr _ _ (Yv fun R rr=>?_)⟩;refine W5 (fun l xs H7=>xs=[qv (some false),qv (some true)]/\Yj H6 H7/\H7 l=some (.lst xs)) (fun R r=>?_) ?_
 ·walk_at "rd"
  exact ⟨few (by decide),fun l hl=>r l _ _ (ao.of Yd) ⟨rfl,.aj hl _,Yd⟩⟩
 ·rintro l xs H7 hS ⟨rfl,s7,hl⟩
  refine ⟨fun i σ H'=>∃ o,σ=[some (.ref B),some (.int h),some (.ref C),some (.int c),some (.ref B2),some (.int s),some (.int (cnt (aD (YX h)) (.use nT) s)),some v,some (qv (kn x)),o]/\Yj H7 H',⟨none,rfl,.refl _⟩,fun i σ H' _ ⟨_,_,s8⟩=>ao.of (s8 _ _ hl),?_,?_⟩
  ·rintro i y σ H' hy ⟨o,rfl,s8⟩
   obtain ⟨b,rfl⟩:∃ b,y=qv (some b):=by
    match i,hy with
    | 0,hy=>exact ⟨false,(Option.some.inj hy).symm⟩
    | 1,hy=>exact ⟨true,(Option.some.inj hy).symm⟩
   have s68:=s7.trans s8;have wf:=Vo (h:=h) x mt.ok b 24 (by omega);have wz:=Vn x mt.ok mt.rg b 24 (by omega);refine Yv fun R rr=>?_
   walk_at "rd";refine ⟨few (by decide),fun p2 hp2=>?_⟩;have nj:=Yj.aj hp2 (.tup [.str "use",qv (some b)]);have s9:=s68.trans nj;have du:Den g.K (upd H' p2 (.tup [.str "use",qv (some b)])) (.ref p2) (kd (.use (nK b))):=Ug (au.of (by rw [Yd,BZ])) (Ca b);refine ⟨Y8 h,B2,p2,.use (nK b),v,td x,rfl,Mw.keep' s9,BP h,du,BL h b,Mv.same s9,wf,fun H8 bN=>⟨U0 _ _,rfl,?_⟩⟩;rw [wz,YgS];simp only [Vk];refine XG (by simp) (rr _ _ ?_);walk_at "rd";refine ⟨U0 _ _,?_⟩;simp only [Vk];have Mx:=s8.trans (nj.trans bN);refine Y6 (fun e1=>?_) (fun e1=>Mx);refine ⟨few (by decide),fun p3 hp3=>?_⟩;have qJ:=Yj.aj hp3 (.tup [.str "use",qv (some b)]);have mQ:=s9.trans (bN.trans qJ);have du3:Den g.K (upd H8 p3 (.tup [.str "use",qv (some b)])) (.ref p3) (kd (.use (nK b))):=Ug (au.of (by rw [Yd,BZ])) (Ca b);refine ⟨Y8 h,B2,p3,.use (nK b),v,td x,s,rfl,Mw.keep' mQ,BP h,du3,BL h b,Mv.same mQ,wf,by rw [wz,wk,if_pos e1,mt.sz],fun H9 s12=>⟨rfl,XG (fun z=>z rfl) (Mx.trans (qJ.trans s12))⟩⟩
  ·rintro σ H' ⟨o,rfl,s8⟩
   refine rr _ _ ?_;walk_at "rd";exact q H' (s16.trans (s7.trans s8))
theorem Yfx (ns:List Int):∃ i:Int,(ns.map V.int++[V.int 0])[0]?=some (V.int i):=by
 cases ns with
 | nil=>exact ⟨0,rfl⟩
 | cons n ns=>exact ⟨n,rfl⟩
theorem Yfy (x:Int) {j:Int} (h:0<j):∃ r:Nat,x%j=r:=⟨(x%j).toNat,by have:=Int.emod_nonneg x (Int.ne_of_gt h);omega⟩
theorem YgT {xs:List V} {lo hi:Option Int} {v:V} (h:v∈QN xs lo hi):v∈xs:=by
 unfold QN at h;exact List.mem_of_mem_drop (List.mem_of_mem_take h)
theorem Yfz {k:Nat} {Z6 Z5 Z1 Z2 Z4 Z3 Z0:Addr} (oN:g.Fn k "raw_book" ["high"] (qC g.K)) (Cd:g.Fn k "kinded_book" ["high"] (jN g.K)) (qK:g.Fn k "counted" ["book","shape","size"] (Kc g.K (Cs.mk Z0 Z2 Z4 Z1 Z3) 130)) (lD:g.Fn k "counts_to" ["book","shape","size"] (Ka g.K (Cs.mk Z0 Z2 Z4 Z1 Z3) 130)) (jO:g.jx k "all_values" ["book","shape","size","most"] [.int 400] (Kz g.K (Cs.mk Z0 Z2 Z4 Z1 Z3))) (qH:g.Fn k "_law_kind" ["_law_term"] (qG g.K 10)) (qL:g.Fn k "_law_one" ["_law_raw","_law_high","_law_counts","_law_cell"] (ni g.K)) (aF:g.mg "len"=none):Uu g k ["_law_script","_law_first","_law_high","_law_raw","_law_counts","_law_cell","_law_size","_law_kinds","_law_name"] "law" uT (UM g.K):=by
 refine fun f_ cdv A outer s H vs Q E hr h=>?_
 obtain ⟨a,ns,rfl,hS,hl,q⟩:=h;refine ⟨_,(@Ye _ _ _ _ _ (@Yz _ _ (1) _ _ _ _ X6.nd rfl (.inl rfl) (@YR _ _ _ _ _ _ _ _ Ve (@Yo _ _ _ _ _ _ _ YL (@YR _ _ _ _ _ _ _ _ Ygm (pv 0) (@Y5 _ _ _ _ (@Ya _ _ _ _ _ Yh Yb (by rfl)))) Yh (fun _ _=>rfl)) (@YR _ _ _ _ _ _ _ _ Rf Yh Yh)) (by rfl) (by first | exact .inl rfl | exact .inr rfl | assumption)) (@Ye _ _ _ _ _ (@Yz _ _ (2) _ _ _ _ X6.nd rfl (.inl rfl) (@YR _ _ _ _ _ _ _ _ Vi (pv 1) Yh) (by rfl) (by first | exact .inl rfl | exact .inr rfl | assumption)) (@Ye _ _ _ _ _ (@Yy _ _ _ _ _ _ _ _ (@Yl _ _ _ _ _ _ _ _ YC (@YR _ _ _ _ _ _ _ _ Ve (pv 1) Yh) Yh (Yn _)) (@Yf _ _ _ (@Yz _ _ (2) _ _ _ _ X6.nd rfl (.inl rfl) (@YR _ _ _ _ _ _ _ _ Ve (@YR _ _ _ _ _ _ _ _ Vi (pv 1) Yh) Yh) (by rfl) (by first | exact .inl rfl | exact .inr rfl | assumption))) Yq) (@Ye _ _ _ _ _ (@Yz _ _ (3) _ _ _ _ X6.nd rfl (.inl rfl) (@YA _ _ _ _ _ _ _ _ _ _ _ _ oN hr (@Ya _ _ _ _ _ (pv 2) Yb (by rfl)) (by omega) (by rfl) (by rfl) (by decide) (by rfl) (by rfl)) (by rfl) (by first | exact .inl rfl | exact .inr rfl | assumption)) (@Ye _ _ _ _ _ (@Yz _ _ (4) _ _ _ _ X6.nd rfl (.inl rfl) (@YA _ _ _ _ _ _ _ _ _ _ _ _ lD hr (@Ya _ _ _ _ _ (pv 3) (@Ya _ _ _ _ _ (@Yu _ _ _ _ _ (@Ya _ _ _ _ _ Yk (@Ya _ _ _ _ _ Yk Yb (by rfl)) (by rfl))) (@Ya _ _ _ _ _ Yh Yb (by rfl)) (Yw _ _ _ _ _)) (by rfl)) (by omega) (by rfl) (by rfl) (by decide) (by rfl) (by rfl)) (by rfl) (by first | exact .inl rfl | exact .inr rfl | assumption)) (@Ye _ _ _ _ _ (@WN _ _ _ _ _ _ _ _ PassesOwn.never rfl (@Xo _ _ _ _ (@RW _ _ _ _ _ _ _ _ _ _ R7 (pv 0) (@Gk _ _ _ Yh) (@Gk _ _ _ Yh))) (@YK _ _ (5) _ X6.nd rfl (.inl rfl) (by first | exact .inl rfl | exact .inr rfl | assumption)) (@Yf _ _ _ (@Yy _ _ _ _ _ _ _ _ (@WL _ _ _ _ (@Vb _ _ _ (@YA _ _ _ _ _ _ _ _ _ _ _ _ qL hr (@Ya _ _ _ _ _ (pv 3) (@Ya _ _ _ _ _ (pv 2) (@Ya _ _ _ _ _ (pv 4) (@Ya _ _ _ _ _ (pv 5) Yb (by rfl)) (by rfl)) (by rfl)) (by rfl)) (by omega) (by rfl) (by rfl) (by decide) (by rfl) (by rfl)) (by intro _;rfl))) (@Yf _ _ _ (@Ym _ _ _ _ Wk)) Yq)) (by intro _;rfl)) (@Ye _ _ _ _ _ (@Yz _ _ (6) _ _ _ _ X6.nd rfl (.inl rfl) (@YR _ _ _ _ _ _ _ _ Ve (@YR _ _ _ _ _ _ _ _ Vi (pv 1) Yh) Yh) (by rfl) (by first | exact .inl rfl | exact .inr rfl | assumption)) (@Ye _ _ _ _ _ (@QS _ (7) _ _ _ _ _ _ _ _ _ ([none]) ((["_law_term"]:List Str)) _ (YG 0) _ _ X6.nd rfl (.inl rfl) (.own .nil) rfl (@Xo _ _ _ _ (@Yg8 _ _ _ _ _ _ _ _ _ _ _ _ _ jO hr (@Ya _ _ _ _ _ (pv 3) (@Ya _ _ _ _ _ (@Yu _ _ _ _ _ (@Ya _ _ _ _ _ Yk (@Ya _ _ _ _ _ Yk Yb (by rfl)) (by rfl))) (@Ya _ _ _ _ _ (pv 6) Yb (by rfl)) (Yw _ _ _ _ _)) (by rfl)) (by omega) (by rfl) (by rfl) (by decide) (by rfl) (by rfl))) (fun cl C s₀ H₀ fp pn=>(@YK _ _ (0) _ (show List.Nodup (["_law_term"]:List Str) by decide +kernel) rfl (.inl rfl) (.inr rfl))) (fun cl C s₀ H₀ fp pn=>Xc) (fun cl C s₀ H₀ fp pn=>(@YA _ _ _ _ _ _ _ _ _ _ _ _ qH hr (@Ya _ _ _ _ _ (pv 0) Yb (by rfl)) (by omega) (by rfl) (by rfl) (by decide) (by rfl) (by rfl))) (by intro x hx;simp at hx) (by rfl) (by decide) (by decide +kernel) (by intro _;rfl) (by rfl) (by first | exact .inl rfl | exact .inr rfl | assumption)) (@Ye _ _ _ _ _ (@WN _ _ _ _ _ _ _ _ PassesOwn.never rfl (@Xo _ _ _ _ (@Y5 _ _ _ _ (@Ya _ _ _ _ _ Yk (@Ya _ _ _ _ _ Yk Yb (by rfl)) (by rfl)))) (@YK _ _ (8) _ X6.nd rfl (.inr rfl) (by first | exact .inl rfl | exact .inr rfl | assumption)) (@Yf _ _ _ (@Yy _ _ _ _ _ _ _ _ (@Yl _ _ _ _ _ _ _ _ V7 (@YA _ _ _ _ _ _ _ _ _ _ _ _ qK hr (@Ya _ _ _ _ _ (@YA _ _ _ _ _ _ _ _ _ _ _ _ Cd hr (@Ya _ _ _ _ _ (pv 2) Yb (by rfl)) (by omega) (by rfl) (by rfl) (by decide) (by rfl) (by rfl)) (@Ya _ _ _ _ _ (@Yu _ _ _ _ _ (@Ya _ _ _ _ _ Yk (@Ya _ _ _ _ _ (pv 8) Yb (by rfl)) (by rfl))) (@Ya _ _ _ _ _ (pv 6) Yb (by rfl)) (Yw _ _ _ _ _)) (by rfl)) (by omega) (by rfl) (by rfl) (by decide) (by rfl) (by rfl)) (@YS _ _ _ _ _ _ _ _ _ _ aF YH (@Ya _ _ _ _ _ (@X2 _ _ _ _ _ _ _ ([none,some 8]) ((["_law_kind_here","_law_name"]:List Str)) _ (YG 0) _ _ (.own (.cap (i:=8) rfl rfl (by first | exact .inl rfl | exact .inr rfl) .nil)) rfl (@Xo _ _ _ _ (pv 7)) (fun cl C s₀ H₀ fp pn=>(@YK _ _ (0) _ (show List.Nodup (["_law_kind_here","_law_name"]:List Str) by decide +kernel) rfl (.inl rfl) (.inr rfl))) (fun cl C s₀ H₀ fp pn=>(@SQ _ _ _ (@Yl _ _ _ _ _ _ _ _ YC (pv 0) (pv 1) (Yn _)))) (fun cl C s₀ H₀ fp pn=>(pv 0)) (by intro x hx;simp at hx;first | (subst hx;exact .inl rfl) | (rcases hx with rfl | rfl<;>exact .inl rfl) | (rcases hx with rfl | rfl | rfl<;>exact .inl rfl) | (rcases hx with rfl | rfl | rfl | rfl<;>exact .inl rfl) | (rcases hx with rfl | rfl | rfl | rfl | rfl<;>exact .inl rfl)) (by rfl) (by decide) (by decide +kernel) (by intro _;rfl)) Yb (by rfl)) (by decide +kernel) (by rfl) (by rfl) (by decide) (by decide) (by rfl) (by rfl)) (Yn _)) (@Yf _ _ _ (@Ym _ _ _ _ Wk)) Yq)) (by intro _;rfl)) (@Yf _ _ _ (@Ym _ _ _ _ (@X1 _ _ _ _ _ _ _ _ YC (@YS _ _ _ _ _ _ _ _ _ _ aF YH (@Ya _ _ _ _ _ (pv 7) Yb (by rfl)) (by decide +kernel) (by rfl) (by rfl) (by decide) (by decide) (by rfl) (by rfl)) (@Yo _ _ _ _ _ _ _ YL (pv 4) (pv 6) (fun _ _=>rfl)) (Yn _))))))))))))),?_⟩;refine Yv fun R rr=>?_
 walk_at "rd";refine ⟨few (by decide),fun p hp=>?_⟩;have s0:=Yj.aj hp (.lst [V.int 0]);refine ⟨a,p,ns.map V.int,[V.int 0],rfl,rfl,hS.keep s0,eV.of Yd,few (by rw [List.length_map,List.length_singleton];omega),fun p' hp'=>?_⟩;have s1:=s0.trans (.aj hp' (.lst (ns.map V.int++[V.int 0])));obtain ⟨i0,hi0⟩:=Yfx ns;obtain ⟨f,hf⟩:=Yfy i0 (j:=10^Int.toNat 21) (by decide +kernel);refine ⟨_,rfl,_,ao.of Yd,_,Yr (j:=0) hi0,Oh,_,rfl,by decide +kernel,?_⟩;rw [hf];refine rr _ _ (Yv fun R rr=>?_);walk_at "rd";refine ⟨VB (by decide) (by decide),?_⟩;rw [show ((f:Nat):Int) / 10=((f / 10:Nat):Int) by omega];refine rr _ _ (Yv fun R rr=>?_);generalize hH1:upd (upd H p (.lst [V.int 0])) p' (.lst (ns.map V.int++[V.int 0]))=H1 at s1;have key:∀ h:Nat,R [some (.ref a),some (.int f),some (.int h),none,none,none,none,none,none] H1:=fun h=>by
  refine rr _ _ (Yv fun R rr=>?_);walk_at "rd";refine ⟨h,rfl,fun B H2 s2 hB=>rr _ _ (Yv fun R rr=>?_)⟩;walk_at "rd";refine ⟨few (by decide),fun p2 hp2=>?_⟩;have nj:=Yj.aj hp2 (.tup [.str "use",.str "term"]);refine ⟨YX h,B,p2,.use nT,7,rfl,hB.keep' nj,QF (au.of (by rw [Yd,vh])) WK,vp h,Q9 h,by simp [wt],by simp [dep],by decide,by simp [dep],fun C H3 s3 _ hC=>rr _ _ (Yv fun R rr=>?_)⟩;have Cg:=s1.trans (s2.trans (nj.trans s3));have hB3:=hB.keep' (nj.trans s3);refine W5 (fun l xs H4=>(∀ v∈xs,∃ i:Int,v = .int i)/\Yj H3 H4/\H4 l=some (.lst xs)) (fun R r=>?_) ?_
  ·walk_at "rd"
   refine ⟨_,(hS.keep Cg).sq,fun l gl=>r l _ _ (ao.of Yd) ⟨fun v hv=>?_,.aj gl _,Yd⟩⟩;have:=YgT hv;obtain ⟨i,_,rfl⟩:=List.mem_map.mp this;exact ⟨i,rfl⟩
  ·rintro l xs H4 hS4 ⟨hx,s4,u9⟩
   refine ⟨fun i σ H'=>∃ o,σ=[some (.ref a),some (.int f),some (.int h),some (.ref B),some (.ref C),o,none,none,none]/\Yj H4 H',⟨none,rfl,.refl _⟩,fun i σ H' _ ⟨_,_,s5⟩=>ao.of (s5 _ _ u9),?_,?_⟩
   ·rintro i y σ H' hy ⟨o,rfl,s5⟩
    obtain ⟨c,rfl⟩:=hx y (List.mem_of_getElem? hy);walk_at "rd";refine ⟨B,C,h,c,rfl,hB3.keep' (s4.trans s5),s4.trans s5 _ _ hC,fun H6 s6=>?_⟩;walk_at "rd";exact s5.trans s6
   ·rintro σ H5 ⟨o,rfl,s5⟩
    have Mz:=s4.trans s5;have hB5:=hB3.keep' Mz;have hC5:=Mz _ _ hC;refine rr _ _ (Yv fun R rr=>?_);walk_at "rd";refine ⟨VB (by decide) (by decide),by decide,?_⟩;obtain ⟨sz,hz1,hz2⟩:=Iu ((f:Int) / 40) (j:=5) (by decide);rw [hz1];refine rr _ _ (Yv fun R rr=>?_);have hfew:=YgQ h (s:=sz) (by omega);have hlen:=(QI h sz).len;refine ⟨few (by decide),fun p3 hp3=>?_⟩;have qJ:=Yj.aj hp3 (.tup [.str "use",.str "term"]);refine ⟨YX h,B,p3,.use nT,sz,400,rfl,hB5.keep' qJ,QF (au.of (by rw [Yd,vh])) WK,vp h,Q9 h,by simp [wt],by simp [dep],by omega,by omega,by omega,fun D us ds H6 s6 gD hD hv al=>?_⟩;have ed:=YgR al;subst ed;have MF:=hv.length;rw [List.length_map] at MF
    refine VC (K:=g.K) (tl:=tC (.ref D)) (xs:=us) ((tms h sz).map fun x=>qv (kn x)) (fun R r=>r D H6 (.refl H6) (ao.of hD)) (by rw [List.length_map,MF]) (by omega) ?_ ?_
    ·intro i v y H' hv' hy sm' R rr
     rw [List.getElem?_map] at hy
     obtain ⟨x,hx',rfl⟩:=Option.map_eq_some_iff.mp hy;have mt:=Ml h sz x (List.mem_of_getElem? hx');have:=mt.dp;walk_at "rd";exact ⟨v,x,rfl,(hv.at hv' (by rw [List.getElem?_map,hx'];rfl)).same sm',mt.ok,by omega,fun aK s''=>rr aK s''⟩
    ·intro D2 H7 hD2 s7 hd2
     refine rr _ _ (Yv fun R rr=>?_);have s57:=qJ.trans (s6.trans s7);have hd2':=hd2;have hC7:=s57 _ _ hC5;refine W5 (fun l xs H8=>xs=[qv (some false),qv (some true)]/\Yj H7 H8/\H8 l=some (.lst xs)) (fun R r=>?_) ?_
     ·walk_at "rd"
      exact ⟨few (by decide),fun l gl=>r l _ _ (ao.of Yd) ⟨rfl,.aj gl _,Yd⟩⟩
     ·rintro l xs H8 hS8 ⟨rfl,s8,Ak⟩
      refine ⟨fun i σ H'=>∃ o',σ=[some (.ref a),some (.int f),some (.int h),some (.ref B),some (.ref C),o,some (.int sz),some (.ref D2),o']/\Yj H8 H',⟨none,rfl,.refl _⟩,fun i σ H' _ ⟨_,_,s9⟩=>ao.of (s9 _ _ Ak),?_,?_⟩
      ·rintro i y σ H' hy ⟨o',rfl,s9⟩
       obtain ⟨b,rfl⟩:∃ b,y=qv (some b):=by
        match i,hy with
        | 0,hy=>exact ⟨false,(Option.some.inj hy).symm⟩
        | 1,hy=>exact ⟨true,(Option.some.inj hy).symm⟩
       have gk:=YhG h sz b;walk_at "rd";refine ⟨h,rfl,fun B2 H9 bN hB2=>⟨few (by decide),fun p4 iV=>?_⟩⟩;have Ci:=Yj.aj iV (.tup [.str "use",qv (some b)]);refine ⟨Y8 h,B2,p4,.use (nK b),sz,rfl,hB2.keep' Ci,QF (au.of (by rw [Yd,BZ])) (Ca b),BL h b,BP h,by simp [wt],by simp [dep],by omega,by simp [dep];omega,fun uw mQ=>?_⟩;have O6:=s8.trans (s9.trans (bN.trans (Ci.trans mQ)));refine T6 (K:=g.K) (xs:=(tms h sz).map fun x=>qv (kn x)) (fun v=>decide (v=qv (some b))) id (fun R r=>by walk_at "rd";exact r D2 uw (.refl _) (ao.of (O6 _ _ hd2'))) (by rw [List.length_map];omega) ?_ ?_ ?_
       ·intro v H' hv' sm' R rr
        obtain ⟨x,_,rfl⟩:=List.mem_map.mp hv';walk_at "rd";exact ⟨U0 _ _,rr H' (.refl _)⟩
       ·intro v H' hv' hp' sm' R rr
        walk_at "rd";exact rr H' (.refl _)
       ·intro D3 S9 hD3 s12 hd3
        walk_at "rd";refine ⟨_,.inl (ao.of hd3),XG (fun z=>z ?_) (s9.trans (bN.trans (Ci.trans (mQ.trans s12))))⟩;rw [List.map_id,List.filter_map,List.length_map,<- gk]
        congr 2
        exact List.filter_congr fun x _=>by simp only [Function.comp,kc,Vk]
      ·rintro σ H' ⟨o',rfl,s9⟩
       refine rr _ _ ?_;have MJ:=s8.trans s9;walk_at "rd";refine ⟨_,.inl (ao.of (MJ _ _ hd2')),_,ao.of (MJ _ _ hC7),_,Xs _ (by omega),rfl,?_⟩;rw [List.length_map,hlen,decide_eq_true rfl];exact q H'
 walk_at "rd";refine ⟨by decide,Y6 (fun e=>⟨VB (by decide) (by decide),by decide,?_⟩) fun e=>key (f / 10)⟩;rw [show ((f:Nat):Int) / 10%4=((f / 10%4:Nat):Int) by omega];exact key _
theorem dU {α:Type} {us:List α} (h:us.length=1):∃ a0,us=[a0]:=by
 match us,h with
 | [a0],_=>exact ⟨_,rfl⟩
theorem bK {α:Type} {us:List α} (h:us.length=2):∃ a0 a1,us=[a0,a1]:=by
 match us,h with
 | [a0,a1],_=>exact ⟨_,_,rfl⟩
theorem dg {α:Type} {us:List α} (h:us.length=3):∃ a0 a1 a2,us=[a0,a1,a2]:=by
 match us,h with
 | [a0,a1,a2],_=>exact ⟨_,_,_,rfl⟩
theorem Cj {α:Type} {us:List α} (h:us.length=4):∃ a0 a1 a2 a3,us=[a0,a1,a2,a3]:=by
 match us,h with
 | [a0,a1,a2,a3],_=>exact ⟨_,_,_,_,rfl⟩
structure Top (K:W.Frag) (mg:Str->Option Value) (Z6:Addr) (Z5:Addr) (Z1:Addr) (Z2:Addr) (Z4:Addr) (Z3:Addr) (Z0:Addr):Prop where
 ZN:∀ P w base,(Gx.mk P w K mg base).aO Z0 "count_at" "Maker.count_at" zL ["self","size"]
 ZT:∀ P w base,(Gx.mk P w K mg base).aO Z2 "count_at" "Maker.count_at" zM ["self","size"]
 ZP:∀ P w base,(Gx.mk P w K mg base).aO Z1 "count_at" "Maker.count_at" zN ["self","size"]
 ZU:∀ P w base,(Gx.mk P w K mg base).aO Z3 "count_at" "Maker.count_at" zO ["self","size"]
 Ck:∀ P w base,(Gx.mk P w K mg base).Raw "least_distance" "least_distance" yC ["size"]
 qM:∀ P w base,(Gx.mk P w K mg base).aO Z0 "reckoned" "WholeMaker.reckoned" za ["self","size"]
 Cm:∀ P w base,(Gx.mk P w K mg base).Raw "ways_of" "ways_of" yu ["blocks"]
 qN:∀ P w base,(Gx.mk P w K mg base).aO Z4 "blocks_at" "RowTable.blocks_at" zp ["self","place","left"]
 qO:∀ P w base,(Gx.mk P w K mg base).aO Z4 "add_size" "RowTable.add_size" zm ["self","size"]
 nq:∀ P w base,(Gx.mk P w K mg base).aO Z4 "ways_at" "RowTable.ways_at" zj ["self","place","left"]
 qP:∀ P w base,(Gx.mk P w K mg base).aO Z2 "reckoned" "RowMaker.reckoned" zu ["self","size"]
 qQ:∀ P w base,(Gx.mk P w K mg base).aO Z3 "reckoned" "UseMaker.reckoned" zG ["self","size"]
 qR:∀ P w base,(Gx.mk P w K mg base).aO Z1 "blocks_at" "PickMaker.blocks_at" zA ["self","size"]
 qT:∀ P w base,(Gx.mk P w K mg base).aO Z1 "reckoned" "PickMaker.reckoned" zB ["self","size"]
 Cp:∀ P w base,(Gx.mk P w K mg base).Raw "parts_of" "parts_of" xO ["shape"]
 Cq:∀ P w base,(Gx.mk P w K mg base).ju "Maker" "__init__" "Maker.__init__" zK ["self"]
 Cr:∀ P w base,(Gx.mk P w K mg base).bU "WholeMaker" Z0 "WholeMaker.__init__" yZ ["self","low","high"]
 Cu:∀ P w base,(Gx.mk P w K mg base).bU "PickMaker" Z1 "PickMaker.__init__" zy ["self","marks","parts"]
 Cv:∀ P w base,(Gx.mk P w K mg base).bU "UseMaker" Z3 "UseMaker.__init__" zF ["self"]
 Cw:∀ P w base,(Gx.mk P w K mg base).bU "RowTable" Z4 "RowTable.__init__" zf ["self","parts"]
 Cy:∀ P w base,(Gx.mk P w K mg base).bU "RowMaker" Z2 "RowMaker.__init__" zq ["self","parts"]
 Cz:∀ P w base,(Gx.mk P w K mg base).bU "Lister" Z5 "Lister.__init__" yS ["self","book"]
 CG:∀ P w base,(Gx.mk P w K mg base).Raw "shape_of" "shape_of" xY ["book","name"]
 qU:∀ P w base,(Gx.mk P w K mg base).aO Z5 "new_maker" "Lister.new_maker" yW ["self","shape"]
 qW:∀ P w base,(Gx.mk P w K mg base).aO Z5 "add_use" "Lister.add_use" yV ["self","shape"]
 nA:∀ P w base,(Gx.mk P w K mg base).aO Z5 "maker_of" "Lister.maker_of" yU ["self","shape"]
 CJ:∀ P w base,(Gx.mk P w K mg base).Raw "maker_for" "maker_for" yD ["book","shape"]
 CK:∀ P w base,(Gx.mk P w K mg base).Raw "counts_to" "counts_to" yF ["book","shape","size"]
 CN:∀ P w base,(Gx.mk P w K mg base).Raw "counted" "counted" yE ["book","shape","size"]
 CP:∀ P w base,(Gx.mk P w K mg base).bU "Found" Z6 "Found.__init__" zJ ["self","place","choice","rest"]
 CQ:∀ P w base,(Gx.mk P w K mg base).Raw "found_in" "found_in" yw ["blocks","number"]
 ZO:∀ P w base,(Gx.mk P w K mg base).aO Z0 "value_at" "WholeMaker.value_at" zc ["self","size","number"]
 ZV:∀ P w base,(Gx.mk P w K mg base).aO Z3 "value_at" "UseMaker.value_at" zH ["self","size","number"]
 ZQ:∀ P w base,(Gx.mk P w K mg base).aO Z1 "value_at" "PickMaker.value_at" zE ["self","size","number"]
 ZW:∀ P w base,(Gx.mk P w K mg base).aO Z2 "value_at" "RowMaker.value_at" zx ["self","size","number"]
 CT:∀ P w base,(Gx.mk P w K mg base).Raw "all_made" "all_made" yK ["maker","size"]
 CV:∀ P w base,(Gx.mk P w K mg base).Raw "refuse_too_many" "refuse_too_many" yJ ["count","most"]
 CW:∀ P w base,(Gx.mk P w K mg base).jw "all_values" "all_values" yL ["book","shape","size","most"] [.int 400]
 CZ:∀ P w base,(Gx.mk P w K mg base).Raw "value_at" "value_at" yM ["book","shape","size","number"]
 Dc:∀ P w base,(Gx.mk P w K mg base).Raw "is_whole_number" "is_whole_number" xZ ["thing"]
 Dd:∀ P w base,(Gx.mk P w K mg base).Raw "branch_place" "branch_place" yc ["branches","mark"]
 Df:∀ P w base,(Gx.mk P w K mg base).Raw "has_mark" "has_mark" yg ["branches","value"]
 Dg:∀ P w base,(Gx.mk P w K mg base).Raw "has_form" "has_form" yh ["shape","value"]
 Dh:∀ P w base,(Gx.mk P w K mg base).Raw "things_within" "things_within" yj ["book","shape","value"]
 Di:∀ P w base,(Gx.mk P w K mg base).Raw "sum_of_sizes" "sum_of_sizes" yq ["keys"]
 Dj:∀ P w base,(Gx.mk P w K mg base).Raw "key_made" "key_made" yr ["shape","value","keys"]
 Zz:∀ P w base,(Gx.mk P w K mg base).Raw "weighed" "weighed" yt ["book","shape","value"]
 jP:∀ P w base,(Gx.mk P w K mg base).Raw "fits" "fits" yH ["book","shape","value"]
 Dk:∀ P w base,(Gx.mk P w K mg base).Raw "key_or_refusal" "key_or_refusal" yG ["book","shape","value"]
 Dl:∀ P w base,(Gx.mk P w K mg base).Raw "size_of" "size_of" yI ["book","shape","value"]
 Dm:∀ P w base,(Gx.mk P w K mg base).Raw "inner_terms" "inner_terms" xP ["term"]
 Dn:∀ P w base,(Gx.mk P w K mg base).Raw "kind_by" "kind_by" xQ ["mark","inner"]
 eG:∀ P w base,(Gx.mk P w K mg base).Raw "kind_of" "kind_of" xR ["term"]
 Dp:∀ P w base,(Gx.mk P w K mg base).Raw "row_of_uses" "row_of_uses" xT ["names"]
 Dq:∀ P w base,(Gx.mk P w K mg base).Raw "num_branch" "num_branch" xU ["high"]
 Dr:∀ P w base,(Gx.mk P w K mg base).Raw "here_branch" "here_branch" xV []
 Ds:∀ P w base,(Gx.mk P w K mg base).Raw "raw_book" "raw_book" xW ["high"]
 Dt:∀ P w base,(Gx.mk P w K mg base).Raw "kinded_book" "kinded_book" xX ["high"]
 ZZ:∀ P w base,(Gx.mk P w K mg base).Raw "_law_kind" "_law_kind" yO ["_law_term"]
 ZL:∀ P w base,(Gx.mk P w K mg base).Raw "_law_is_term" "_law_is_term" yP ["_law_term","_law_high"]
 Du:∀ P w base,(Gx.mk P w K mg base).Raw "_law_one" "_law_one" yR ["_law_raw","_law_high","_law_counts","_law_cell"]
 ZM:Cls K Z6
 ZF:Yc K Z6 "place"
 ZI:Yc K Z6 "choice"
 ZR:Yc K Z6 "rest"
 Zy:Cls K Z5
 ZD:Yc K Z5 "book"
 Zs:Yc K Z5 "makers"
 Za:Cls K Z1
 Z9:Yc K Z1 "counts"
 Zg:Yc K Z1 "marks"
 Ze:Yc K Z1 "parts"
 Zh:Cls K Z2
 Zb:Yc K Z2 "counts"
 Zl:Yc K Z2 "parts"
 Zk:Yc K Z2 "table"
 Zn:Cls K Z4
 Zr:Yc K Z4 "parts"
 Zm:Yc K Z4 "ways"
 Zj:Cls K Z3
 Zc:Yc K Z3 "counts"
 Zi:Yc K Z3 "named"
 Z8:Cls K Z0
 Z7:Yc K Z0 "counts"
 Zf:Yc K Z0 "low"
 Zd:Yc K Z0 "span"
 bB:∀ P w base,(Gx.mk P w K mg base).iH "NUMBER" (.str "number")
 iR:∀ P w base,(Gx.mk P w K mg base).cj "OF_ONE_PART" ([.str "many",.str "rising",.str "unlike"])
 qw:∀ P w base,(Gx.mk P w K mg base).cj "OF_ONE_TERM" ([.str "count",.str "sum",.str "not",.str "turned"])
 qx:∀ P w base,(Gx.mk P w K mg base).cj "OF_TWO_TERMS" ([.str "plus",.str "times",.str "less",.str "same",.str "both",.str "each",.str "joined"])
 aV:∀ P w base,(Gx.mk P w K mg base).iH "TRUTH" (.str "truth")
 iu:∀ P w base,(Gx.mk P w K mg base).cj "TWO_NUMBERS" ([.str "number",.str "number"])
 iW:∀ P w base,(Gx.mk P w K mg base).cj "TWO_TRUTHS" ([.str "truth",.str "truth"])
 bT:mg "all"=none
 aY:mg "bool"=none
 g8:mg "enumerate"=none
 bC:mg "int"=none
 Zq:mg "isinstance"=none
 aF:mg "len"=none
 aR:mg "list"=none
 fL:mg "max"=none
 fM:mg "min"=none
 ZY:mg "range"=none
 bF:mg "str"=none
 dO:mg "sum"=none
 Zv:mg "tuple"=none
 ig:mg "zip"=none
theorem YfA {K:W.Frag} {mg:Str->Option Value} {Z6 Z5 Z1 Z2 Z4 Z3 Z0:Addr}  (t:Top K mg Z6 Z5 Z1 Z2 Z4 Z3 Z0) (P:Program) (w:World) (base:Heap) :
  Uu (Gx.mk P w K mg base) 169 ["_law_script","_law_first","_law_high","_law_raw","_law_counts","_law_cell","_law_size","_law_kinds","_law_name"] "law" uT (UM K):=by
 have vG:=Z4B (g:=Gx.mk P w K mg base) (Z6:=Z6) (Z5:=Z5) (Z1:=Z1) (Z2:=Z2) (Z4:=Z4) (Z3:=Z3) (Z0:=Z0) (t.Ck P w base);have vH:=Yc7 (g:=Gx.mk P w K mg base) (Z6:=Z6) (Z5:=Z5) (Z1:=Z1) (Z2:=Z2) (Z4:=Z4) (Z3:=Z3) (Z0:=Z0) (t.Cm P w base) t.dO;have Z38:∀ i:Nat,((Gx.mk P w K mg base).Me (1+i+1) Z0 "count_at" ["self","size"] (Zo (Cs.mk Z0 Z2 Z4 Z1 Z3) 0 (i+1)))/\((Gx.mk P w K mg base).Me (1+i+1) Z2 "count_at" ["self","size"] (Zo (Cs.mk Z0 Z2 Z4 Z1 Z3) 2 (i+1)))/\((Gx.mk P w K mg base).Me (1+i+1) Z1 "count_at" ["self","size"] (Zo (Cs.mk Z0 Z2 Z4 Z1 Z3) 3 (i+1)))/\((Gx.mk P w K mg base).Me (1+i+1) Z3 "count_at" ["self","size"] (Zo (Cs.mk Z0 Z2 Z4 Z1 Z3) 5 (i+1)))/\((Gx.mk P w K mg base).Me (1+i+1) Z4 "blocks_at" ["self","place","left"] (pR (Cs.mk Z0 Z2 Z4 Z1 Z3) (i+1)))/\((Gx.mk P w K mg base).Me (1+i+1) Z4 "add_size" ["self","size"] (gR (Cs.mk Z0 Z2 Z4 Z1 Z3) (i+1)))/\((Gx.mk P w K mg base).Me (1+i+1) Z4 "ways_at" ["self","place","left"] (d8 (Cs.mk Z0 Z2 Z4 Z1 Z3) (i+1)))/\((Gx.mk P w K mg base).Me (1+i+1) Z1 "blocks_at" ["self","size"] (pU (Cs.mk Z0 Z2 Z4 Z1 Z3) (i+1)))/\((Gx.mk P w K mg base).Me (1+i+1) Z0 "reckoned" ["self","size"] (bx (Cs.mk Z0 Z2 Z4 Z1 Z3) 0 (i+1)))/\((Gx.mk P w K mg base).Me (1+i+1) Z2 "reckoned" ["self","size"] (bx (Cs.mk Z0 Z2 Z4 Z1 Z3) 2 (i+1)))/\((Gx.mk P w K mg base).Me (1+i+1) Z3 "reckoned" ["self","size"] (bx (Cs.mk Z0 Z2 Z4 Z1 Z3) 5 (i+1)))/\((Gx.mk P w K mg base).Me (1+i+1) Z1 "reckoned" ["self","size"] (bx (Cs.mk Z0 Z2 Z4 Z1 Z3) 3 (i+1))):=by
  intro i
  induction i with
  | zero=>exact ⟨Iz (g:=Gx.mk P w K mg base) (m:=0) (k:=1) (Z6:=Z6) (Z5:=Z5) (Z1:=Z1) (Z2:=Z2) (Z4:=Z4) (Z3:=Z3) (Z0:=Z0) (t.ZN P w base) ((t.qM P w base).none (fun _ _ _ _ h=>UP h)) t.aF t.Z8 t.Z7 t.Zf t.Zd,IK (g:=Gx.mk P w K mg base) (m:=0) (k:=1) (Z6:=Z6) (Z5:=Z5) (Z1:=Z1) (Z2:=Z2) (Z4:=Z4) (Z3:=Z3) (Z0:=Z0) (t.ZT P w base) ((t.qP P w base).none (fun _ _ _ _ h=>UP h)) t.aF t.Zh t.Zb t.Zl t.Zk,IV (g:=Gx.mk P w K mg base) (m:=0) (k:=1) (Z6:=Z6) (Z5:=Z5) (Z1:=Z1) (Z2:=Z2) (Z4:=Z4) (Z3:=Z3) (Z0:=Z0) (t.ZP P w base) ((t.qT P w base).none (fun _ _ _ _ h=>UP h)) t.aF t.Za t.Z9 t.Zg t.Ze,IW (g:=Gx.mk P w K mg base) (m:=0) (k:=1) (Z6:=Z6) (Z5:=Z5) (Z1:=Z1) (Z2:=Z2) (Z4:=Z4) (Z3:=Z3) (Z0:=Z0) (t.ZU P w base) ((t.qQ P w base).none (fun _ _ _ _ h=>UP h)) t.aF t.Zj t.Zc t.Zi,Jd (g:=Gx.mk P w K mg base) (m:=0) (k:=1) (Z6:=Z6) (Z5:=Z5) (Z1:=Z1) (Z2:=Z2) (Z4:=Z4) (Z3:=Z3) (Z0:=Z0) (t.qN P w base) ((t.nq P w base).none (fun _ _ _ _ h=>Jb h)) ((t.ZN P w base).none (fun _ _ _ _ h=>eY h)) ((t.ZT P w base).none (fun _ _ _ _ h=>eY h)) ((t.ZP P w base).none (fun _ _ _ _ h=>eY h)) ((t.ZU P w base).none (fun _ _ _ _ h=>eY h)) t.ZY t.Za t.Z9 t.Zg t.Ze t.Zh t.Zb t.Zl t.Zk t.Zn t.Zr t.Zm t.Zj t.Zc t.Zi t.Z8 t.Z7 t.Zf t.Zd,Jf (g:=Gx.mk P w K mg base) (m:=0) (k:=1) (Z6:=Z6) (Z5:=Z5) (Z1:=Z1) (Z2:=Z2) (Z4:=Z4) (Z3:=Z3) (Z0:=Z0) (t.qO P w base) (vH.mono (by omega)) ((t.qN P w base).none (fun _ _ _ _ h=>Yc8 h)) t.aF t.ZY t.Zn t.Zr t.Zm,Jh (g:=Gx.mk P w K mg base) (m:=0) (k:=1) (Z6:=Z6) (Z5:=Z5) (Z1:=Z1) (Z2:=Z2) (Z4:=Z4) (Z3:=Z3) (Z0:=Z0) (t.nq P w base) ((t.qO P w base).none (fun _ _ _ _ h=>Yhc h)) t.aF t.Zn t.Zr t.Zm,Jq (g:=Gx.mk P w K mg base) (m:=0) (k:=1) (Z6:=Z6) (Z5:=Z5) (Z1:=Z1) (Z2:=Z2) (Z4:=Z4) (Z3:=Z3) (Z0:=Z0) (t.qR P w base) ((t.ZN P w base).none (fun _ _ _ _ h=>eY h)) ((t.ZT P w base).none (fun _ _ _ _ h=>eY h)) ((t.ZP P w base).none (fun _ _ _ _ h=>eY h)) ((t.ZU P w base).none (fun _ _ _ _ h=>eY h)) t.Za t.Z9 t.Zg t.Ze t.Zh t.Zb t.Zl t.Zk t.Zj t.Zc t.Zi t.Z8 t.Z7 t.Zf t.Zd,Ja (g:=Gx.mk P w K mg base) (m:=0) (k:=1) (Z6:=Z6) (Z5:=Z5) (Z1:=Z1) (Z2:=Z2) (Z4:=Z4) (Z3:=Z3) (Z0:=Z0) (t.qM P w base) (vG.mono (by omega)) t.fL t.fM t.Z8 t.Z7 t.Zf t.Zd,Jj (g:=Gx.mk P w K mg base) (m:=0) (k:=1) (Z6:=Z6) (Z5:=Z5) (Z1:=Z1) (Z2:=Z2) (Z4:=Z4) (Z3:=Z3) (Z0:=Z0) (t.qP P w base) ((t.nq P w base).none (fun _ _ _ _ h=>Jb h)) t.Zh t.Zb t.Zl t.Zk t.Zn t.Zr t.Zm,Jp (g:=Gx.mk P w K mg base) (m:=0) (k:=1) (Z6:=Z6) (Z5:=Z5) (Z1:=Z1) (Z2:=Z2) (Z4:=Z4) (Z3:=Z3) (Z0:=Z0) (t.qQ P w base) ((t.ZN P w base).none (fun _ _ _ _ h=>eY h)) ((t.ZT P w base).none (fun _ _ _ _ h=>eY h)) ((t.ZP P w base).none (fun _ _ _ _ h=>eY h)) ((t.ZU P w base).none (fun _ _ _ _ h=>eY h)) t.Za t.Z9 t.Zg t.Ze t.Zh t.Zb t.Zl t.Zk t.Zj t.Zc t.Zi t.Z8 t.Z7 t.Zf t.Zd,Jr (g:=Gx.mk P w K mg base) (m:=0) (k:=1) (Z6:=Z6) (Z5:=Z5) (Z1:=Z1) (Z2:=Z2) (Z4:=Z4) (Z3:=Z3) (Z0:=Z0) (t.qT P w base) (vH.mono (by omega)) ((t.qR P w base).none (fun _ _ _ _ h=>Yda h)) t.Za t.Z9 t.Zg t.Ze⟩
  | succ i ih =>
   obtain ⟨Dv,Dw,Dy,Dz,Z3M,Z43,MK,Z39,Z3a,Z44,Z45,Z3N⟩:=ih;exact ⟨Iz (g:=Gx.mk P w K mg base) (m:=i+1) (k:=1+i+1) (Z6:=Z6) (Z5:=Z5) (Z1:=Z1) (Z2:=Z2) (Z4:=Z4) (Z3:=Z3) (Z0:=Z0) (t.ZN P w base) Z3a t.aF t.Z8 t.Z7 t.Zf t.Zd,IK (g:=Gx.mk P w K mg base) (m:=i+1) (k:=1+i+1) (Z6:=Z6) (Z5:=Z5) (Z1:=Z1) (Z2:=Z2) (Z4:=Z4) (Z3:=Z3) (Z0:=Z0) (t.ZT P w base) Z44 t.aF t.Zh t.Zb t.Zl t.Zk,IV (g:=Gx.mk P w K mg base) (m:=i+1) (k:=1+i+1) (Z6:=Z6) (Z5:=Z5) (Z1:=Z1) (Z2:=Z2) (Z4:=Z4) (Z3:=Z3) (Z0:=Z0) (t.ZP P w base) Z3N t.aF t.Za t.Z9 t.Zg t.Ze,IW (g:=Gx.mk P w K mg base) (m:=i+1) (k:=1+i+1) (Z6:=Z6) (Z5:=Z5) (Z1:=Z1) (Z2:=Z2) (Z4:=Z4) (Z3:=Z3) (Z0:=Z0) (t.ZU P w base) Z45 t.aF t.Zj t.Zc t.Zi,Jd (g:=Gx.mk P w K mg base) (m:=i+1) (k:=1+i+1) (Z6:=Z6) (Z5:=Z5) (Z1:=Z1) (Z2:=Z2) (Z4:=Z4) (Z3:=Z3) (Z0:=Z0) (t.qN P w base) MK Dv Dw Dy Dz t.ZY t.Za t.Z9 t.Zg t.Ze t.Zh t.Zb t.Zl t.Zk t.Zn t.Zr t.Zm t.Zj t.Zc t.Zi t.Z8 t.Z7 t.Zf t.Zd,Jf (g:=Gx.mk P w K mg base) (m:=i+1) (k:=1+i+1) (Z6:=Z6) (Z5:=Z5) (Z1:=Z1) (Z2:=Z2) (Z4:=Z4) (Z3:=Z3) (Z0:=Z0) (t.qO P w base) (vH.mono (by omega)) Z3M t.aF t.ZY t.Zn t.Zr t.Zm,Jh (g:=Gx.mk P w K mg base) (m:=i+1) (k:=1+i+1) (Z6:=Z6) (Z5:=Z5) (Z1:=Z1) (Z2:=Z2) (Z4:=Z4) (Z3:=Z3) (Z0:=Z0) (t.nq P w base) Z43 t.aF t.Zn t.Zr t.Zm,Jq (g:=Gx.mk P w K mg base) (m:=i+1) (k:=1+i+1) (Z6:=Z6) (Z5:=Z5) (Z1:=Z1) (Z2:=Z2) (Z4:=Z4) (Z3:=Z3) (Z0:=Z0) (t.qR P w base) Dv Dw Dy Dz t.Za t.Z9 t.Zg t.Ze t.Zh t.Zb t.Zl t.Zk t.Zj t.Zc t.Zi t.Z8 t.Z7 t.Zf t.Zd,Ja (g:=Gx.mk P w K mg base) (m:=i+1) (k:=1+i+1) (Z6:=Z6) (Z5:=Z5) (Z1:=Z1) (Z2:=Z2) (Z4:=Z4) (Z3:=Z3) (Z0:=Z0) (t.qM P w base) (vG.mono (by omega)) t.fL t.fM t.Z8 t.Z7 t.Zf t.Zd,Jj (g:=Gx.mk P w K mg base) (m:=i+1) (k:=1+i+1) (Z6:=Z6) (Z5:=Z5) (Z1:=Z1) (Z2:=Z2) (Z4:=Z4) (Z3:=Z3) (Z0:=Z0) (t.qP P w base) MK t.Zh t.Zb t.Zl t.Zk t.Zn t.Zr t.Zm,Jp (g:=Gx.mk P w K mg base) (m:=i+1) (k:=1+i+1) (Z6:=Z6) (Z5:=Z5) (Z1:=Z1) (Z2:=Z2) (Z4:=Z4) (Z3:=Z3) (Z0:=Z0) (t.qQ P w base) Dv Dw Dy Dz t.Za t.Z9 t.Zg t.Ze t.Zh t.Zb t.Zl t.Zk t.Zj t.Zc t.Zi t.Z8 t.Z7 t.Zf t.Zd,Jr (g:=Gx.mk P w K mg base) (m:=i+1) (k:=1+i+1) (Z6:=Z6) (Z5:=Z5) (Z1:=Z1) (Z2:=Z2) (Z4:=Z4) (Z3:=Z3) (Z0:=Z0) (t.qT P w base) (vH.mono (by omega)) Z39 t.Za t.Z9 t.Zg t.Ze⟩
 obtain ⟨qX,qY,qZ,rm,MN,o9,rz,MP,nD,pq,pA,oO⟩:=Z38 129;have M4:=YbB (g:=Gx.mk P w K mg base) (Z6:=Z6) (Z5:=Z5) (Z1:=Z1) (Z2:=Z2) (Z4:=Z4) (Z3:=Z3) (Z0:=Z0) (t.Cp P w base) t.aR;have vI:=Z4C (g:=Gx.mk P w K mg base) (Z6:=Z6) (Z5:=Z5) (Z1:=Z1) (Z2:=Z2) (Z4:=Z4) (Z3:=Z3) (Z0:=Z0) (t.Cq P w base) t.Za t.Z9 t.Zg t.Ze t.Zh t.Zb t.Zl t.Zk t.Zj t.Zc t.Zi t.Z8 t.Z7 t.Zf t.Zd;have M5:=Z2V (g:=Gx.mk P w K mg base) (k:=1) (Z6:=Z6) (Z5:=Z5) (Z1:=Z1) (Z2:=Z2) (Z4:=Z4) (Z3:=Z3) (Z0:=Z0) (t.Cr P w base) (vI.mono (by decide)) t.Z8 t.Z7 t.Zf t.Zd;have M6:=Z35 (g:=Gx.mk P w K mg base) (k:=1) (Z6:=Z6) (Z5:=Z5) (Z1:=Z1) (Z2:=Z2) (Z4:=Z4) (Z3:=Z3) (Z0:=Z0) (t.Cu P w base) (vI.mono (by decide)) t.Za t.Z9 t.Zg t.Ze;have M7:=Z3w (g:=Gx.mk P w K mg base) (k:=1) (Z6:=Z6) (Z5:=Z5) (Z1:=Z1) (Z2:=Z2) (Z4:=Z4) (Z3:=Z3) (Z0:=Z0) (t.Cv P w base) (vI.mono (by decide)) t.Zj t.Zc t.Zi;have Z46:=Z3x (g:=Gx.mk P w K mg base) (Z6:=Z6) (Z5:=Z5) (Z1:=Z1) (Z2:=Z2) (Z4:=Z4) (Z3:=Z3) (Z0:=Z0) (t.Cw P w base) t.aF t.ZY t.Zn t.Zr t.Zm;have M8:=Z3y (g:=Gx.mk P w K mg base) (k:=2) (Z6:=Z6) (Z5:=Z5) (Z1:=Z1) (Z2:=Z2) (Z4:=Z4) (Z3:=Z3) (Z0:=Z0) (t.Cy P w base) Z46 (by decide) (vI.mono (by decide)) t.Zh t.Zb t.Zl t.Zk;have Z4I:=Z4k (g:=Gx.mk P w K mg base) (Z6:=Z6) (Z5:=Z5) (Z1:=Z1) (Z2:=Z2) (Z4:=Z4) (Z3:=Z3) (Z0:=Z0) (t.Cz P w base) t.Zy t.ZD t.Zs;have DG:=YbC (g:=Gx.mk P w K mg base) (Z6:=Z6) (Z5:=Z5) (Z1:=Z1) (Z2:=Z2) (Z4:=Z4) (Z3:=Z3) (Z0:=Z0) (t.CG P w base);have Z4v:∀ i:Nat,((Gx.mk P w K mg base).Me (4+i+1) Z5 "new_maker" ["self","shape"] (gW (Gx.mk P w K mg base).P (Gx.mk P w K mg base).w (Gx.mk P w K mg base).K (Cs.mk Z0 Z2 Z4 Z1 Z3) Z5 (i+1)))/\((Gx.mk P w K mg base).Me (4+i+1) Z5 "add_use" ["self","shape"] (u0 (Gx.mk P w K mg base).P (Gx.mk P w K mg base).w (Gx.mk P w K mg base).K (Cs.mk Z0 Z2 Z4 Z1 Z3) Z5 (i+1)))/\((Gx.mk P w K mg base).Me (4+i+1) Z5 "maker_of" ["self","shape"] (jD (Gx.mk P w K mg base).P (Gx.mk P w K mg base).w (Gx.mk P w K mg base).K (Cs.mk Z0 Z2 Z4 Z1 Z3) Z5 (i+1))):=by
  intro i
  induction i with
  | zero=>exact ⟨JZ (g:=Gx.mk P w K mg base) (m:=0) (k:=4) (Z6:=Z6) (Z5:=Z5) (Z1:=Z1) (Z2:=Z2) (Z4:=Z4) (Z3:=Z3) (Z0:=Z0) (t.qU P w base) (M4.mono (by omega)) ((t.nA P w base).none (fun _ _ _ _ h=>JV h)) M5 (by omega) M8 (by omega) M6 (by omega) t.Zy t.ZD t.Zs,J4 (g:=Gx.mk P w K mg base) (m:=0) (k:=4) (Z6:=Z6) (Z5:=Z5) (Z1:=Z1) (Z2:=Z2) (Z4:=Z4) (Z3:=Z3) (Z0:=Z0) (t.qW P w base) (DG.mono (by omega)) ((t.nA P w base).none (fun _ _ _ _ h=>JV h)) M7 (by omega) t.Zy t.ZD t.Zs t.Zj t.Zc t.Zi,J7 (g:=Gx.mk P w K mg base) (m:=0) (k:=4) (Z6:=Z6) (Z5:=Z5) (Z1:=Z1) (Z2:=Z2) (Z4:=Z4) (Z3:=Z3) (Z0:=Z0) (t.nA P w base) ((t.qW P w base).none (fun _ _ _ _ h=>Ydd h)) ((t.qU P w base).none (fun _ _ _ _ h=>Yhg h)) t.Zy t.ZD t.Zs⟩
  | succ i ih =>
   obtain ⟨Z4w,Z50,M9⟩:=ih;exact ⟨JZ (g:=Gx.mk P w K mg base) (m:=i+1) (k:=4+i+1) (Z6:=Z6) (Z5:=Z5) (Z1:=Z1) (Z2:=Z2) (Z4:=Z4) (Z3:=Z3) (Z0:=Z0) (t.qU P w base) (M4.mono (by omega)) M9 M5 (by omega) M8 (by omega) M6 (by omega) t.Zy t.ZD t.Zs,J4 (g:=Gx.mk P w K mg base) (m:=i+1) (k:=4+i+1) (Z6:=Z6) (Z5:=Z5) (Z1:=Z1) (Z2:=Z2) (Z4:=Z4) (Z3:=Z3) (Z0:=Z0) (t.qW P w base) (DG.mono (by omega)) M9 M7 (by omega) t.Zy t.ZD t.Zs t.Zj t.Zc t.Zi,J7 (g:=Gx.mk P w K mg base) (m:=i+1) (k:=4+i+1) (Z6:=Z6) (Z5:=Z5) (Z1:=Z1) (Z2:=Z2) (Z4:=Z4) (Z3:=Z3) (Z0:=Z0) (t.nA P w base) Z50 Z4w t.Zy t.ZD t.Zs⟩
 obtain ⟨rA,tE,Z4J⟩:=Z4v 59;have vJ:=Yba (g:=Gx.mk P w K mg base) (k:=64) (Z6:=Z6) (Z5:=Z5) (Z1:=Z1) (Z2:=Z2) (Z4:=Z4) (Z3:=Z3) (Z0:=Z0) (t.CJ P w base) Z4I (by decide) (Z4J.mono (by decide)) t.Zy t.ZD t.Zs;have lE:=Ybb (g:=Gx.mk P w K mg base) (k:=131) (Z6:=Z6) (Z5:=Z5) (Z1:=Z1) (Z2:=Z2) (Z4:=Z4) (Z3:=Z3) (Z0:=Z0) (t.CK P w base) (vJ.mono (by decide)) (qX.mono (by decide)) (qY.mono (by decide)) (qZ.mono (by decide)) (rm.mono (by decide)) t.ZY t.Za t.Z9 t.Zg t.Ze t.Zh t.Zb t.Zl t.Zk t.Zj t.Zc t.Zi t.Z8 t.Z7 t.Zf t.Zd;have rB:=Yde (g:=Gx.mk P w K mg base) (k:=131) (Z6:=Z6) (Z5:=Z5) (Z1:=Z1) (Z2:=Z2) (Z4:=Z4) (Z3:=Z3) (Z0:=Z0) (t.CN P w base) (vJ.mono (by decide)) (qX.mono (by decide)) (qY.mono (by decide)) (qZ.mono (by decide)) (rm.mono (by decide)) t.Za t.Z9 t.Zg t.Ze t.Zh t.Zb t.Zl t.Zk t.Zj t.Zc t.Zi t.Z8 t.Z7 t.Zf t.Zd;have Z51:=Z4E (g:=Gx.mk P w K mg base) (Z6:=Z6) (Z5:=Z5) (Z1:=Z1) (Z2:=Z2) (Z4:=Z4) (Z3:=Z3) (Z0:=Z0) (t.CP P w base) t.ZM t.ZF t.ZI t.ZR;have vK:=YbE (g:=Gx.mk P w K mg base) (k:=2) (Z6:=Z6) (Z5:=Z5) (Z1:=Z1) (Z2:=Z2) (Z4:=Z4) (Z3:=Z3) (Z0:=Z0) (t.CQ P w base) Z51 (by decide);have Z3P:∀ i:Nat,((Gx.mk P w K mg base).Me (131+i+1) Z0 "value_at" ["self","size","number"] (aM (Cs.mk Z0 Z2 Z4 Z1 Z3) 0 (i+1)))/\((Gx.mk P w K mg base).Me (131+i+1) Z2 "value_at" ["self","size","number"] (aM (Cs.mk Z0 Z2 Z4 Z1 Z3) 2 (i+1)))/\((Gx.mk P w K mg base).Me (131+i+1) Z1 "value_at" ["self","size","number"] (aM (Cs.mk Z0 Z2 Z4 Z1 Z3) 3 (i+1)))/\((Gx.mk P w K mg base).Me (131+i+1) Z3 "value_at" ["self","size","number"] (aM (Cs.mk Z0 Z2 Z4 Z1 Z3) 5 (i+1))):=by
  intro i
  induction i with
  | zero=>exact ⟨Kf (g:=Gx.mk P w K mg base) (m:=0) (k:=131) (Z6:=Z6) (Z5:=Z5) (Z1:=Z1) (Z2:=Z2) (Z4:=Z4) (Z3:=Z3) (Z0:=Z0) (t.ZO P w base) (vG.mono (by omega)) t.Z8 t.Z7 t.Zf t.Zd,Kr (g:=Gx.mk P w K mg base) (m:=0) (k:=131) (Z6:=Z6) (Z5:=Z5) (Z1:=Z1) (Z2:=Z2) (Z4:=Z4) (Z3:=Z3) (Z0:=Z0) (t.ZW P w base) (vK.mono (by omega)) ((t.ZO P w base).none (fun _ _ _ _ h=>XQ h)) (MN.mono (by omega)) ((t.ZW P w base).none (fun _ _ _ _ h=>XQ h)) ((t.ZQ P w base).none (fun _ _ _ _ h=>XQ h)) ((t.ZV P w base).none (fun _ _ _ _ h=>XQ h)) t.g8 t.Zv t.ZM t.ZF t.ZI t.ZR t.Za t.Z9 t.Zg t.Ze t.Zh t.Zb t.Zl t.Zk t.Zn t.Zr t.Zm t.Zj t.Zc t.Zi t.Z8 t.Z7 t.Zf t.Zd,Ko (g:=Gx.mk P w K mg base) (m:=0) (k:=131) (Z6:=Z6) (Z5:=Z5) (Z1:=Z1) (Z2:=Z2) (Z4:=Z4) (Z3:=Z3) (Z0:=Z0) (t.ZQ P w base) (vK.mono (by omega)) ((t.ZO P w base).none (fun _ _ _ _ h=>XQ h)) ((t.ZW P w base).none (fun _ _ _ _ h=>XQ h)) (MP.mono (by omega)) ((t.ZQ P w base).none (fun _ _ _ _ h=>XQ h)) ((t.ZV P w base).none (fun _ _ _ _ h=>XQ h)) t.ZM t.ZF t.ZI t.ZR t.Za t.Z9 t.Zg t.Ze t.Zh t.Zb t.Zl t.Zk t.Zj t.Zc t.Zi t.Z8 t.Z7 t.Zf t.Zd,Kg (g:=Gx.mk P w K mg base) (m:=0) (k:=131) (Z6:=Z6) (Z5:=Z5) (Z1:=Z1) (Z2:=Z2) (Z4:=Z4) (Z3:=Z3) (Z0:=Z0) (t.ZV P w base) ((t.ZO P w base).none (fun _ _ _ _ h=>XQ h)) ((t.ZW P w base).none (fun _ _ _ _ h=>XQ h)) ((t.ZQ P w base).none (fun _ _ _ _ h=>XQ h)) ((t.ZV P w base).none (fun _ _ _ _ h=>XQ h)) t.Za t.Z9 t.Zg t.Ze t.Zh t.Zb t.Zl t.Zk t.Zj t.Zc t.Zi t.Z8 t.Z7 t.Zf t.Zd⟩
  | succ i ih =>
   obtain ⟨DN,DP,DQ,DR⟩:=ih;exact ⟨Kf (g:=Gx.mk P w K mg base) (m:=i+1) (k:=131+i+1) (Z6:=Z6) (Z5:=Z5) (Z1:=Z1) (Z2:=Z2) (Z4:=Z4) (Z3:=Z3) (Z0:=Z0) (t.ZO P w base) (vG.mono (by omega)) t.Z8 t.Z7 t.Zf t.Zd,Kr (g:=Gx.mk P w K mg base) (m:=i+1) (k:=131+i+1) (Z6:=Z6) (Z5:=Z5) (Z1:=Z1) (Z2:=Z2) (Z4:=Z4) (Z3:=Z3) (Z0:=Z0) (t.ZW P w base) (vK.mono (by omega)) DN (MN.mono (by omega)) DP DQ DR t.g8 t.Zv t.ZM t.ZF t.ZI t.ZR t.Za t.Z9 t.Zg t.Ze t.Zh t.Zb t.Zl t.Zk t.Zn t.Zr t.Zm t.Zj t.Zc t.Zi t.Z8 t.Z7 t.Zf t.Zd,Ko (g:=Gx.mk P w K mg base) (m:=i+1) (k:=131+i+1) (Z6:=Z6) (Z5:=Z5) (Z1:=Z1) (Z2:=Z2) (Z4:=Z4) (Z3:=Z3) (Z0:=Z0) (t.ZQ P w base) (vK.mono (by omega)) DN DP (MP.mono (by omega)) DQ DR t.ZM t.ZF t.ZI t.ZR t.Za t.Z9 t.Zg t.Ze t.Zh t.Zb t.Zl t.Zk t.Zj t.Zc t.Zi t.Z8 t.Z7 t.Zf t.Zd,Kg (g:=Gx.mk P w K mg base) (m:=i+1) (k:=131+i+1) (Z6:=Z6) (Z5:=Z5) (Z1:=Z1) (Z2:=Z2) (Z4:=Z4) (Z3:=Z3) (Z0:=Z0) (t.ZV P w base) DN DP DQ DR t.Za t.Z9 t.Zg t.Ze t.Zh t.Zb t.Zl t.Zk t.Zj t.Zc t.Zi t.Z8 t.Z7 t.Zf t.Zd⟩
 obtain ⟨Nb,Nf,Ng,Nh⟩:=Z3P 35;have oR:=YbF (g:=Gx.mk P w K mg base) (k:=167) (Z6:=Z6) (Z5:=Z5) (Z1:=Z1) (Z2:=Z2) (Z4:=Z4) (Z3:=Z3) (Z0:=Z0) (t.CT P w base) (Nb.mono (by decide)) (Nf.mono (by decide)) (Ng.mono (by decide)) (Nh.mono (by decide)) (qX.mono (by decide)) (qY.mono (by decide)) (qZ.mono (by decide)) (rm.mono (by decide)) t.ZY t.Za t.Z9 t.Zg t.Ze t.Zh t.Zb t.Zl t.Zk t.Zj t.Zc t.Zi t.Z8 t.Z7 t.Zf t.Zd;have Z4K:=Z4n (g:=Gx.mk P w K mg base) (Z6:=Z6) (Z5:=Z5) (Z1:=Z1) (Z2:=Z2) (Z4:=Z4) (Z3:=Z3) (Z0:=Z0) (t.CV P w base);have jQ:=Yat (g:=Gx.mk P w K mg base) (k:=168) (Z6:=Z6) (Z5:=Z5) (Z1:=Z1) (Z2:=Z2) (Z4:=Z4) (Z3:=Z3) (Z0:=Z0) (t.CW P w base) (vJ.mono (by decide)) (Z4K.mono (by decide)) (oR.mono (by decide)) (qX.mono (by decide)) (qY.mono (by decide)) (qZ.mono (by decide)) (rm.mono (by decide)) t.Za t.Z9 t.Zg t.Ze t.Zh t.Zb t.Zl t.Zk t.Zj t.Zc t.Zi t.Z8 t.Z7 t.Zf t.Zd;have oU:=YbG (g:=Gx.mk P w K mg base) (k:=167) (Z6:=Z6) (Z5:=Z5) (Z1:=Z1) (Z2:=Z2) (Z4:=Z4) (Z3:=Z3) (Z0:=Z0) (t.CZ P w base) (vJ.mono (by decide)) (Nb.mono (by decide)) (Nf.mono (by decide)) (Ng.mono (by decide)) (Nh.mono (by decide)) (qX.mono (by decide)) (qY.mono (by decide)) (qZ.mono (by decide)) (rm.mono (by decide)) t.Za t.Z9 t.Zg t.Ze t.Zh t.Zb t.Zl t.Zk t.Zj t.Zc t.Zi t.Z8 t.Z7 t.Zf t.Zd;have Z4L:=Z4o (g:=Gx.mk P w K mg base) (Z6:=Z6) (Z5:=Z5) (Z1:=Z1) (Z2:=Z2) (Z4:=Z4) (Z3:=Z3) (Z0:=Z0) (t.Dc P w base) t.aY t.bC t.Zq;have DW:=Z5b (g:=Gx.mk P w K mg base) (Z6:=Z6) (Z5:=Z5) (Z1:=Z1) (Z2:=Z2) (Z4:=Z4) (Z3:=Z3) (Z0:=Z0) (t.Dd P w base) t.g8;have oV:=YbH (g:=Gx.mk P w K mg base) (k:=1) (Z6:=Z6) (Z5:=Z5) (Z1:=Z1) (Z2:=Z2) (Z4:=Z4) (Z3:=Z3) (Z0:=Z0) (t.Df P w base) (DW.mono (by decide)) t.Zq t.aF t.bF t.Zv;have ZB:=YbI (g:=Gx.mk P w K mg base) (k:=2) (Z6:=Z6) (Z5:=Z5) (Z1:=Z1) (Z2:=Z2) (Z4:=Z4) (Z3:=Z3) (Z0:=Z0) (t.Dg P w base) (Z4L.mono (by decide)) (oV.mono (by decide)) t.Zq t.aF t.Zv (t.iR P w base);have Zp:=Z4Y (g:=Gx.mk P w K mg base) (k:=1) (Z6:=Z6) (Z5:=Z5) (Z1:=Z1) (Z2:=Z2) (Z4:=Z4) (Z3:=Z3) (Z0:=Z0) (t.Dh P w base) (DG.mono (by decide)) (DW.mono (by decide)) t.aR t.ig (t.iR P w base);have Z5y:=Z5c (g:=Gx.mk P w K mg base) (Z6:=Z6) (Z5:=Z5) (Z1:=Z1) (Z2:=Z2) (Z4:=Z4) (Z3:=Z3) (Z0:=Z0) (t.Di P w base) t.dO;have ZC:=YbJ (g:=Gx.mk P w K mg base) (k:=1) (Z6:=Z6) (Z5:=Z5) (Z1:=Z1) (Z2:=Z2) (Z4:=Z4) (Z3:=Z3) (Z0:=Z0) (t.Dj P w base) (DW.mono (by decide)) (Z5y.mono (by decide)) t.Zv;have lF:=ZA (g:=Gx.mk P w K mg base) (m:=0) (k:=3) (Z6:=Z6) (Z5:=Z5) (Z1:=Z1) (Z2:=Z2) (Z4:=Z4) (Z3:=Z3) (Z0:=Z0) (t.Zz P w base) (ZB.mono (by decide)) (Zp.mono (by decide)) (ZC.mono (by decide)) ((t.Zz P w base).none (fun _ _ _ _ h=>Ydh h));have lG:=ZA (g:=Gx.mk P w K mg base) (m:=1) (k:=4) (Z6:=Z6) (Z5:=Z5) (Z1:=Z1) (Z2:=Z2) (Z4:=Z4) (Z3:=Z3) (Z0:=Z0) (t.Zz P w base) (ZB.mono (by decide)) (Zp.mono (by decide)) (ZC.mono (by decide)) (lF.mono (by decide));have lH:=ZA (g:=Gx.mk P w K mg base) (m:=2) (k:=5) (Z6:=Z6) (Z5:=Z5) (Z1:=Z1) (Z2:=Z2) (Z4:=Z4) (Z3:=Z3) (Z0:=Z0) (t.Zz P w base) (ZB.mono (by decide)) (Zp.mono (by decide)) (ZC.mono (by decide)) (lG.mono (by decide));have lJ:=ZA (g:=Gx.mk P w K mg base) (m:=3) (k:=6) (Z6:=Z6) (Z5:=Z5) (Z1:=Z1) (Z2:=Z2) (Z4:=Z4) (Z3:=Z3) (Z0:=Z0) (t.Zz P w base) (ZB.mono (by decide)) (Zp.mono (by decide)) (ZC.mono (by decide)) (lH.mono (by decide));have lK:=ZA (g:=Gx.mk P w K mg base) (m:=4) (k:=7) (Z6:=Z6) (Z5:=Z5) (Z1:=Z1) (Z2:=Z2) (Z4:=Z4) (Z3:=Z3) (Z0:=Z0) (t.Zz P w base) (ZB.mono (by decide)) (Zp.mono (by decide)) (ZC.mono (by decide)) (lJ.mono (by decide));have lM:=ZA (g:=Gx.mk P w K mg base) (m:=5) (k:=8) (Z6:=Z6) (Z5:=Z5) (Z1:=Z1) (Z2:=Z2) (Z4:=Z4) (Z3:=Z3) (Z0:=Z0) (t.Zz P w base) (ZB.mono (by decide)) (Zp.mono (by decide)) (ZC.mono (by decide)) (lK.mono (by decide));have lN:=ZA (g:=Gx.mk P w K mg base) (m:=6) (k:=9) (Z6:=Z6) (Z5:=Z5) (Z1:=Z1) (Z2:=Z2) (Z4:=Z4) (Z3:=Z3) (Z0:=Z0) (t.Zz P w base) (ZB.mono (by decide)) (Zp.mono (by decide)) (ZC.mono (by decide)) (lM.mono (by decide));have lO:=ZA (g:=Gx.mk P w K mg base) (m:=7) (k:=10) (Z6:=Z6) (Z5:=Z5) (Z1:=Z1) (Z2:=Z2) (Z4:=Z4) (Z3:=Z3) (Z0:=Z0) (t.Zz P w base) (ZB.mono (by decide)) (Zp.mono (by decide)) (ZC.mono (by decide)) (lN.mono (by decide));have lQ:=ZA (g:=Gx.mk P w K mg base) (m:=8) (k:=11) (Z6:=Z6) (Z5:=Z5) (Z1:=Z1) (Z2:=Z2) (Z4:=Z4) (Z3:=Z3) (Z0:=Z0) (t.Zz P w base) (ZB.mono (by decide)) (Zp.mono (by decide)) (ZC.mono (by decide)) (lO.mono (by decide));have jR:=ZA (g:=Gx.mk P w K mg base) (m:=9) (k:=12) (Z6:=Z6) (Z5:=Z5) (Z1:=Z1) (Z2:=Z2) (Z4:=Z4) (Z3:=Z3) (Z0:=Z0) (t.Zz P w base) (ZB.mono (by decide)) (Zp.mono (by decide)) (ZC.mono (by decide)) (lQ.mono (by decide));have jT:=ZA (g:=Gx.mk P w K mg base) (m:=10) (k:=13) (Z6:=Z6) (Z5:=Z5) (Z1:=Z1) (Z2:=Z2) (Z4:=Z4) (Z3:=Z3) (Z0:=Z0) (t.Zz P w base) (ZB.mono (by decide)) (Zp.mono (by decide)) (ZC.mono (by decide)) (jR.mono (by decide));have jU:=ZA (g:=Gx.mk P w K mg base) (m:=11) (k:=14) (Z6:=Z6) (Z5:=Z5) (Z1:=Z1) (Z2:=Z2) (Z4:=Z4) (Z3:=Z3) (Z0:=Z0) (t.Zz P w base) (ZB.mono (by decide)) (Zp.mono (by decide)) (ZC.mono (by decide)) (jT.mono (by decide));have jV:=ZA (g:=Gx.mk P w K mg base) (m:=12) (k:=15) (Z6:=Z6) (Z5:=Z5) (Z1:=Z1) (Z2:=Z2) (Z4:=Z4) (Z3:=Z3) (Z0:=Z0) (t.Zz P w base) (ZB.mono (by decide)) (Zp.mono (by decide)) (ZC.mono (by decide)) (jU.mono (by decide));have jW:=ZA (g:=Gx.mk P w K mg base) (m:=13) (k:=16) (Z6:=Z6) (Z5:=Z5) (Z1:=Z1) (Z2:=Z2) (Z4:=Z4) (Z3:=Z3) (Z0:=Z0) (t.Zz P w base) (ZB.mono (by decide)) (Zp.mono (by decide)) (ZC.mono (by decide)) (jV.mono (by decide));have jX:=ZA (g:=Gx.mk P w K mg base) (m:=14) (k:=17) (Z6:=Z6) (Z5:=Z5) (Z1:=Z1) (Z2:=Z2) (Z4:=Z4) (Z3:=Z3) (Z0:=Z0) (t.Zz P w base) (ZB.mono (by decide)) (Zp.mono (by decide)) (ZC.mono (by decide)) (jW.mono (by decide));have jY:=ZA (g:=Gx.mk P w K mg base) (m:=15) (k:=18) (Z6:=Z6) (Z5:=Z5) (Z1:=Z1) (Z2:=Z2) (Z4:=Z4) (Z3:=Z3) (Z0:=Z0) (t.Zz P w base) (ZB.mono (by decide)) (Zp.mono (by decide)) (ZC.mono (by decide)) (jX.mono (by decide));have jZ:=ZA (g:=Gx.mk P w K mg base) (m:=16) (k:=19) (Z6:=Z6) (Z5:=Z5) (Z1:=Z1) (Z2:=Z2) (Z4:=Z4) (Z3:=Z3) (Z0:=Z0) (t.Zz P w base) (ZB.mono (by decide)) (Zp.mono (by decide)) (ZC.mono (by decide)) (jY.mono (by decide));have j5:=ZA (g:=Gx.mk P w K mg base) (m:=17) (k:=20) (Z6:=Z6) (Z5:=Z5) (Z1:=Z1) (Z2:=Z2) (Z4:=Z4) (Z3:=Z3) (Z0:=Z0) (t.Zz P w base) (ZB.mono (by decide)) (Zp.mono (by decide)) (ZC.mono (by decide)) (jZ.mono (by decide));have j6:=ZA (g:=Gx.mk P w K mg base) (m:=18) (k:=21) (Z6:=Z6) (Z5:=Z5) (Z1:=Z1) (Z2:=Z2) (Z4:=Z4) (Z3:=Z3) (Z0:=Z0) (t.Zz P w base) (ZB.mono (by decide)) (Zp.mono (by decide)) (ZC.mono (by decide)) (j5.mono (by decide));have j7:=ZA (g:=Gx.mk P w K mg base) (m:=19) (k:=22) (Z6:=Z6) (Z5:=Z5) (Z1:=Z1) (Z2:=Z2) (Z4:=Z4) (Z3:=Z3) (Z0:=Z0) (t.Zz P w base) (ZB.mono (by decide)) (Zp.mono (by decide)) (ZC.mono (by decide)) (j6.mono (by decide));have j8:=ZA (g:=Gx.mk P w K mg base) (m:=20) (k:=23) (Z6:=Z6) (Z5:=Z5) (Z1:=Z1) (Z2:=Z2) (Z4:=Z4) (Z3:=Z3) (Z0:=Z0) (t.Zz P w base) (ZB.mono (by decide)) (Zp.mono (by decide)) (ZC.mono (by decide)) (j7.mono (by decide));have j9:=ZA (g:=Gx.mk P w K mg base) (m:=21) (k:=24) (Z6:=Z6) (Z5:=Z5) (Z1:=Z1) (Z2:=Z2) (Z4:=Z4) (Z3:=Z3) (Z0:=Z0) (t.Zz P w base) (ZB.mono (by decide)) (Zp.mono (by decide)) (ZC.mono (by decide)) (j8.mono (by decide));have kj:=ZA (g:=Gx.mk P w K mg base) (m:=22) (k:=25) (Z6:=Z6) (Z5:=Z5) (Z1:=Z1) (Z2:=Z2) (Z4:=Z4) (Z3:=Z3) (Z0:=Z0) (t.Zz P w base) (ZB.mono (by decide)) (Zp.mono (by decide)) (ZC.mono (by decide)) (j9.mono (by decide));have iY:=ZA (g:=Gx.mk P w K mg base) (m:=23) (k:=26) (Z6:=Z6) (Z5:=Z5) (Z1:=Z1) (Z2:=Z2) (Z4:=Z4) (Z3:=Z3) (Z0:=Z0) (t.Zz P w base) (ZB.mono (by decide)) (Zp.mono (by decide)) (ZC.mono (by decide)) (kj.mono (by decide));have DX:=YgB (g:=Gx.mk P w K mg base) (k:=27) (Z6:=Z6) (Z5:=Z5) (Z1:=Z1) (Z2:=Z2) (Z4:=Z4) (Z3:=Z3) (Z0:=Z0) (t.jP P w base) (iY.mono (by decide));have Z52:=Z4H (g:=Gx.mk P w K mg base) (k:=27) (Z6:=Z6) (Z5:=Z5) (Z1:=Z1) (Z2:=Z2) (Z4:=Z4) (Z3:=Z3) (Z0:=Z0) (t.Dk P w base) (iY.mono (by decide));have rD:=Ydi (g:=Gx.mk P w K mg base) (k:=28) (Z6:=Z6) (Z5:=Z5) (Z1:=Z1) (Z2:=Z2) (Z4:=Z4) (Z3:=Z3) (Z0:=Z0) (t.Dl P w base) (Z52.mono (by decide));have ZX:=Z5u (g:=Gx.mk P w K mg base) (Z6:=Z6) (Z5:=Z5) (Z1:=Z1) (Z2:=Z2) (Z4:=Z4) (Z3:=Z3) (Z0:=Z0) (t.Dm P w base) t.aR (t.qw P w base) (t.qx P w base);have gC:=Ydk (g:=Gx.mk P w K mg base) (Z6:=Z6) (Z5:=Z5) (Z1:=Z1) (Z2:=Z2) (Z4:=Z4) (Z3:=Z3) (Z0:=Z0) (t.Dn P w base) (t.bB P w base) (t.aV P w base) (t.iu P w base) (t.iW P w base);have lR:=gw (g:=Gx.mk P w K mg base) (m:=0) (k:=1) (Z6:=Z6) (Z5:=Z5) (Z1:=Z1) (Z2:=Z2) (Z4:=Z4) (Z3:=Z3) (Z0:=Z0) (t.eG P w base) (ZX.mono (by decide)) (gC.mono (by decide)) ((t.eG P w base).none (fun _ _ _ _ h=>YgE h)) t.Zv;have lU:=gw (g:=Gx.mk P w K mg base) (m:=1) (k:=2) (Z6:=Z6) (Z5:=Z5) (Z1:=Z1) (Z2:=Z2) (Z4:=Z4) (Z3:=Z3) (Z0:=Z0) (t.eG P w base) (ZX.mono (by decide)) (gC.mono (by decide)) (lR.mono (by decide)) t.Zv;have lV:=gw (g:=Gx.mk P w K mg base) (m:=2) (k:=3) (Z6:=Z6) (Z5:=Z5) (Z1:=Z1) (Z2:=Z2) (Z4:=Z4) (Z3:=Z3) (Z0:=Z0) (t.eG P w base) (ZX.mono (by decide)) (gC.mono (by decide)) (lU.mono (by decide)) t.Zv;have lW:=gw (g:=Gx.mk P w K mg base) (m:=3) (k:=4) (Z6:=Z6) (Z5:=Z5) (Z1:=Z1) (Z2:=Z2) (Z4:=Z4) (Z3:=Z3) (Z0:=Z0) (t.eG P w base) (ZX.mono (by decide)) (gC.mono (by decide)) (lV.mono (by decide)) t.Zv;have lX:=gw (g:=Gx.mk P w K mg base) (m:=4) (k:=5) (Z6:=Z6) (Z5:=Z5) (Z1:=Z1) (Z2:=Z2) (Z4:=Z4) (Z3:=Z3) (Z0:=Z0) (t.eG P w base) (ZX.mono (by decide)) (gC.mono (by decide)) (lW.mono (by decide)) t.Zv;have lY:=gw (g:=Gx.mk P w K mg base) (m:=5) (k:=6) (Z6:=Z6) (Z5:=Z5) (Z1:=Z1) (Z2:=Z2) (Z4:=Z4) (Z3:=Z3) (Z0:=Z0) (t.eG P w base) (ZX.mono (by decide)) (gC.mono (by decide)) (lX.mono (by decide)) t.Zv;have lZ:=gw (g:=Gx.mk P w K mg base) (m:=6) (k:=7) (Z6:=Z6) (Z5:=Z5) (Z1:=Z1) (Z2:=Z2) (Z4:=Z4) (Z3:=Z3) (Z0:=Z0) (t.eG P w base) (ZX.mono (by decide)) (gC.mono (by decide)) (lY.mono (by decide)) t.Zv;have mj:=gw (g:=Gx.mk P w K mg base) (m:=7) (k:=8) (Z6:=Z6) (Z5:=Z5) (Z1:=Z1) (Z2:=Z2) (Z4:=Z4) (Z3:=Z3) (Z0:=Z0) (t.eG P w base) (ZX.mono (by decide)) (gC.mono (by decide)) (lZ.mono (by decide)) t.Zv;have mq:=gw (g:=Gx.mk P w K mg base) (m:=8) (k:=9) (Z6:=Z6) (Z5:=Z5) (Z1:=Z1) (Z2:=Z2) (Z4:=Z4) (Z3:=Z3) (Z0:=Z0) (t.eG P w base) (ZX.mono (by decide)) (gC.mono (by decide)) (mj.mono (by decide)) t.Zv;have rE:=gw (g:=Gx.mk P w K mg base) (m:=9) (k:=10) (Z6:=Z6) (Z5:=Z5) (Z1:=Z1) (Z2:=Z2) (Z4:=Z4) (Z3:=Z3) (Z0:=Z0) (t.eG P w base) (ZX.mono (by decide)) (gC.mono (by decide)) (mq.mono (by decide)) t.Zv;have Ni:=Z5v (g:=Gx.mk P w K mg base) (Z6:=Z6) (Z5:=Z5) (Z1:=Z1) (Z2:=Z2) (Z4:=Z4) (Z3:=Z3) (Z0:=Z0) (t.Dp P w base) t.Zv;have Nj:=Yau (g:=Gx.mk P w K mg base) (Z6:=Z6) (Z5:=Z5) (Z1:=Z1) (Z2:=Z2) (Z4:=Z4) (Z3:=Z3) (Z0:=Z0) (t.Dq P w base);have Nk:=Z5w (g:=Gx.mk P w K mg base) (Z6:=Z6) (Z5:=Z5) (Z1:=Z1) (Z2:=Z2) (Z4:=Z4) (Z3:=Z3) (Z0:=Z0) (t.Dr P w base);have oW:=YbK (g:=Gx.mk P w K mg base) (k:=1) (Z6:=Z6) (Z5:=Z5) (Z1:=Z1) (Z2:=Z2) (Z4:=Z4) (Z3:=Z3) (Z0:=Z0) (t.Ds P w base) (Ni.mono (by decide)) (Nj.mono (by decide)) (Nk.mono (by decide));have Nm:=Z5x (g:=Gx.mk P w K mg base) (k:=1) (Z6:=Z6) (Z5:=Z5) (Z1:=Z1) (Z2:=Z2) (Z4:=Z4) (Z3:=Z3) (Z0:=Z0) (t.Dt P w base) (Ni.mono (by decide)) (Nj.mono (by decide)) (Nk.mono (by decide)) (t.bB P w base) (t.aV P w base) (t.iu P w base) (t.iW P w base);have kE:=gA (g:=Gx.mk P w K mg base) (m:=0) (k:=0) (Z6:=Z6) (Z5:=Z5) (Z1:=Z1) (Z2:=Z2) (Z4:=Z4) (Z3:=Z3) (Z0:=Z0) (t.ZZ P w base) ((t.ZZ P w base).none (fun _ _ _ _ h=>Yfv h)) t.aR;have kJ:=gA (g:=Gx.mk P w K mg base) (m:=1) (k:=1) (Z6:=Z6) (Z5:=Z5) (Z1:=Z1) (Z2:=Z2) (Z4:=Z4) (Z3:=Z3) (Z0:=Z0) (t.ZZ P w base) (kE.mono (by decide)) t.aR;have kO:=gA (g:=Gx.mk P w K mg base) (m:=2) (k:=2) (Z6:=Z6) (Z5:=Z5) (Z1:=Z1) (Z2:=Z2) (Z4:=Z4) (Z3:=Z3) (Z0:=Z0) (t.ZZ P w base) (kJ.mono (by decide)) t.aR;have kW:=gA (g:=Gx.mk P w K mg base) (m:=3) (k:=3) (Z6:=Z6) (Z5:=Z5) (Z1:=Z1) (Z2:=Z2) (Z4:=Z4) (Z3:=Z3) (Z0:=Z0) (t.ZZ P w base) (kO.mono (by decide)) t.aR;have kY:=gA (g:=Gx.mk P w K mg base) (m:=4) (k:=4) (Z6:=Z6) (Z5:=Z5) (Z1:=Z1) (Z2:=Z2) (Z4:=Z4) (Z3:=Z3) (Z0:=Z0) (t.ZZ P w base) (kW.mono (by decide)) t.aR;have kZ:=gA (g:=Gx.mk P w K mg base) (m:=5) (k:=5) (Z6:=Z6) (Z5:=Z5) (Z1:=Z1) (Z2:=Z2) (Z4:=Z4) (Z3:=Z3) (Z0:=Z0) (t.ZZ P w base) (kY.mono (by decide)) t.aR;have lg:=gA (g:=Gx.mk P w K mg base) (m:=6) (k:=6) (Z6:=Z6) (Z5:=Z5) (Z1:=Z1) (Z2:=Z2) (Z4:=Z4) (Z3:=Z3) (Z0:=Z0) (t.ZZ P w base) (kZ.mono (by decide)) t.aR;have lq:=gA (g:=Gx.mk P w K mg base) (m:=7) (k:=7) (Z6:=Z6) (Z5:=Z5) (Z1:=Z1) (Z2:=Z2) (Z4:=Z4) (Z3:=Z3) (Z0:=Z0) (t.ZZ P w base) (lg.mono (by decide)) t.aR;have lu:=gA (g:=Gx.mk P w K mg base) (m:=8) (k:=8) (Z6:=Z6) (Z5:=Z5) (Z1:=Z1) (Z2:=Z2) (Z4:=Z4) (Z3:=Z3) (Z0:=Z0) (t.ZZ P w base) (lq.mono (by decide)) t.aR;have Np:=gA (g:=Gx.mk P w K mg base) (m:=9) (k:=9) (Z6:=Z6) (Z5:=Z5) (Z1:=Z1) (Z2:=Z2) (Z4:=Z4) (Z3:=Z3) (Z0:=Z0) (t.ZZ P w base) (lu.mono (by decide)) t.aR;have Z5i:=ZS (g:=Gx.mk P w K mg base) (m:=0) (k:=0) (Z6:=Z6) (Z5:=Z5) (Z1:=Z1) (Z2:=Z2) (Z4:=Z4) (Z3:=Z3) (Z0:=Z0) (t.ZL P w base) ((t.ZL P w base).none (fun _ _ _ _ h=>Yfw h)) t.bT t.aY t.bC t.Zq t.aF t.bF t.Zv;have Z5j:=ZS (g:=Gx.mk P w K mg base) (m:=1) (k:=1) (Z6:=Z6) (Z5:=Z5) (Z1:=Z1) (Z2:=Z2) (Z4:=Z4) (Z3:=Z3) (Z0:=Z0) (t.ZL P w base) (Z5i.mono (by decide)) t.bT t.aY t.bC t.Zq t.aF t.bF t.Zv;have Z5k:=ZS (g:=Gx.mk P w K mg base) (m:=2) (k:=2) (Z6:=Z6) (Z5:=Z5) (Z1:=Z1) (Z2:=Z2) (Z4:=Z4) (Z3:=Z3) (Z0:=Z0) (t.ZL P w base) (Z5j.mono (by decide)) t.bT t.aY t.bC t.Zq t.aF t.bF t.Zv;have Z5l:=ZS (g:=Gx.mk P w K mg base) (m:=3) (k:=3) (Z6:=Z6) (Z5:=Z5) (Z1:=Z1) (Z2:=Z2) (Z4:=Z4) (Z3:=Z3) (Z0:=Z0) (t.ZL P w base) (Z5k.mono (by decide)) t.bT t.aY t.bC t.Zq t.aF t.bF t.Zv;have Z5m:=ZS (g:=Gx.mk P w K mg base) (m:=4) (k:=4) (Z6:=Z6) (Z5:=Z5) (Z1:=Z1) (Z2:=Z2) (Z4:=Z4) (Z3:=Z3) (Z0:=Z0) (t.ZL P w base) (Z5l.mono (by decide)) t.bT t.aY t.bC t.Zq t.aF t.bF t.Zv;have Z5n:=ZS (g:=Gx.mk P w K mg base) (m:=5) (k:=5) (Z6:=Z6) (Z5:=Z5) (Z1:=Z1) (Z2:=Z2) (Z4:=Z4) (Z3:=Z3) (Z0:=Z0) (t.ZL P w base) (Z5m.mono (by decide)) t.bT t.aY t.bC t.Zq t.aF t.bF t.Zv;have Z5o:=ZS (g:=Gx.mk P w K mg base) (m:=6) (k:=6) (Z6:=Z6) (Z5:=Z5) (Z1:=Z1) (Z2:=Z2) (Z4:=Z4) (Z3:=Z3) (Z0:=Z0) (t.ZL P w base) (Z5n.mono (by decide)) t.bT t.aY t.bC t.Zq t.aF t.bF t.Zv;have Z5p:=ZS (g:=Gx.mk P w K mg base) (m:=7) (k:=7) (Z6:=Z6) (Z5:=Z5) (Z1:=Z1) (Z2:=Z2) (Z4:=Z4) (Z3:=Z3) (Z0:=Z0) (t.ZL P w base) (Z5o.mono (by decide)) t.bT t.aY t.bC t.Zq t.aF t.bF t.Zv;have Z5q:=ZS (g:=Gx.mk P w K mg base) (m:=8) (k:=8) (Z6:=Z6) (Z5:=Z5) (Z1:=Z1) (Z2:=Z2) (Z4:=Z4) (Z3:=Z3) (Z0:=Z0) (t.ZL P w base) (Z5p.mono (by decide)) t.bT t.aY t.bC t.Zq t.aF t.bF t.Zv;have jc:=ZS (g:=Gx.mk P w K mg base) (m:=9) (k:=9) (Z6:=Z6) (Z5:=Z5) (Z1:=Z1) (Z2:=Z2) (Z4:=Z4) (Z3:=Z3) (Z0:=Z0) (t.ZL P w base) (Z5q.mono (by decide)) t.bT t.aY t.bC t.Zq t.aF t.bF t.Zv;have rF:=Ydr (g:=Gx.mk P w K mg base) (k:=168) (Z6:=Z6) (Z5:=Z5) (Z1:=Z1) (Z2:=Z2) (Z4:=Z4) (Z3:=Z3) (Z0:=Z0) (t.Du P w base) (rE.mono (by decide)) (Nm.mono (by decide)) (DX.mono (by decide)) (rD.mono (by decide)) (oU.mono (by decide)) (Np.mono (by decide)) (jc.mono (by decide));exact Yfz (g:=Gx.mk P w K mg base) (k:=169) (Z6:=Z6) (Z5:=Z5) (Z1:=Z1) (Z2:=Z2) (Z4:=Z4) (Z3:=Z3) (Z0:=Z0) (oW.mono (by decide)) (Nm.mono (by decide)) (rB.mono (by decide)) (lE.mono (by decide)) (jQ.mono (by decide)) (Np.mono (by decide)) (rF.mono (by decide)) t.aF
end KW
namespace PySem.W.Fast
theorem tw13957588923297565218:True:=⟨⟩
theorem tw14803884646899595378:True:=⟨⟩
theorem tw12928416498107712602:True:=⟨⟩
theorem tw9344838174898085855:True:=⟨⟩
theorem tw2056250289055092914:True:=⟨⟩
theorem tw6766014788466991220:True:=⟨⟩
theorem tw11313481004898622545:True:=⟨⟩
theorem tw16404746940492213051:True:=⟨⟩
theorem tw15611786685837978334:True:=⟨⟩
theorem tw12568517676168700838:True:=⟨⟩
theorem tw16645919393741588457:True:=⟨⟩
theorem tw15180585290733723995:True:=⟨⟩
theorem tw17643563112808729338:True:=⟨⟩
theorem tw13853211715100821482:True:=⟨⟩
theorem tw12755119219440663146:True:=⟨⟩
theorem tw5777907981776981770:True:=⟨⟩
theorem tw9784703925714171169:True:=⟨⟩
theorem tw4685729080870917379:True:=⟨⟩
theorem tw8166763342112412068:True:=⟨⟩
theorem tw15822926254300561981:True:=⟨⟩
theorem tw8198852597437486615:True:=⟨⟩
theorem tw16336516018107908662:True:=⟨⟩
theorem tw12498782403032319751:True:=⟨⟩
theorem tw4370014588765190378:True:=⟨⟩
theorem tw17974361296576903160:True:=⟨⟩
theorem tw6446116381239059045:True:=⟨⟩
theorem tw6074285722997769425:True:=⟨⟩
theorem tw11044320878461280938:True:=⟨⟩
theorem tw3150142842611649427:True:=⟨⟩
theorem tw372854106954328899:True:=⟨⟩
theorem tw4541780920900098919:True:=⟨⟩
theorem tw8730408968616229564:True:=⟨⟩
theorem tw10854306644103249512:True:=⟨⟩
theorem tw8828635389383700447:True:=⟨⟩
theorem tw14763637961572908588:True:=⟨⟩
theorem tw9594640045734687155:True:=⟨⟩
theorem tw13144846885642450944:True:=⟨⟩
theorem tw2194379592478440265:True:=⟨⟩
theorem tw15236308997660428195:True:=⟨⟩
theorem tw6478744240400307494:True:=⟨⟩
theorem tw2445851441005788542:True:=⟨⟩
theorem tw1624146186442448838:True:=⟨⟩
theorem tw10875679368100061025:True:=⟨⟩
theorem tw15029075591324871835:True:=⟨⟩
theorem tw7759800706021761555:True:=⟨⟩
theorem tw3810205965984495303:True:=⟨⟩
theorem tw10254898286891155383:True:=⟨⟩
theorem tw8601939007303732645:True:=⟨⟩
theorem tw13649209026487035580:True:=⟨⟩
theorem tw4657906056648115530:True:=⟨⟩
theorem tw10941436608668026909:True:=⟨⟩
theorem tw5293624101685361445:True:=⟨⟩
theorem tw1398208152216014533:True:=⟨⟩
theorem tw2728169447173937372:True:=⟨⟩
theorem tw17521681917272867793:True:=⟨⟩
theorem tw6551760601051177459:True:=⟨⟩
theorem tw893375546323508758:True:=⟨⟩
theorem tw4490753723226135803:True:=⟨⟩
theorem tw5576323897546980307:True:=⟨⟩
theorem tw4609742990559497263:True:=⟨⟩
theorem tw9179896162689832357:True:=⟨⟩
theorem tw2830449417686068226:True:=⟨⟩
theorem tw5161616107531668408:True:=⟨⟩
theorem tw13283407934370327303:True:=⟨⟩
theorem tw3396574846826997095:True:=⟨⟩
theorem tw5628815517801756873:True:=⟨⟩
theorem tw2174772807062069784:True:=⟨⟩
theorem tw12356322178033298793:True:=⟨⟩
theorem tw13355041078430507449:True:=⟨⟩
theorem tw11744601915570339788:True:=⟨⟩
theorem tw13103822503952511736:True:=⟨⟩
theorem tw2001660724468719040:True:=⟨⟩
theorem tw1040314793140832983:True:=⟨⟩
theorem tw7735763450719038088:True:=⟨⟩
theorem tw9285564194093987902:True:=⟨⟩
theorem tw13816041939528712999:True:=⟨⟩
theorem tw6478377419887674709:True:=⟨⟩
theorem tw2814759183982689997:True:=⟨⟩
theorem tw15852140632740364144:True:=⟨⟩
theorem tw3794721936985644557:True:=⟨⟩
theorem tw6411457651353306614:True:=⟨⟩
theorem tw7454640244900662933:True:=⟨⟩
theorem tw14140707211362906784:True:=⟨⟩
theorem tw8519392002988515884:True:=⟨⟩
theorem tw12542775732489847822:True:=⟨⟩
theorem tw8392551654845630786:True:=⟨⟩
theorem tw7479447280995429724:True:=⟨⟩
theorem tw14005378833970548905:True:=⟨⟩
theorem tw16770888399958538124:True:=⟨⟩
theorem tw3098284405523222201:True:=⟨⟩
theorem tw12834151539795469748:True:=⟨⟩
theorem tw2647855703899183010:True:=⟨⟩
theorem tw2889404100804734631:True:=⟨⟩
theorem tw15091247648657551009:True:=⟨⟩
theorem tw15246463677255444394:True:=⟨⟩
theorem tw7584757644957818197:True:=⟨⟩
theorem tw12828928607822650147:True:=⟨⟩
theorem tw8410382443463076741:True:=⟨⟩
theorem tw762215928815201695:True:=⟨⟩
theorem tw5069885690358022855:True:=⟨⟩
theorem tw16419534247227187930:True:=⟨⟩
theorem tw3188854907225763437:True:=⟨⟩
theorem tw7012568452590043034:True:=⟨⟩
theorem tw6031937711163582767:True:=⟨⟩
theorem tw16687924985816622866:True:=⟨⟩
theorem tw12875802437221632962:True:=⟨⟩
theorem tw11503948737058503219:True:=⟨⟩
theorem tw11841736882574336178:True:=⟨⟩
theorem tw16413561080430797440:True:=⟨⟩
theorem tw2438957716990109048:True:=⟨⟩
theorem tw10320217080223561907:True:=⟨⟩
theorem tw14296376305296978716:True:=⟨⟩
theorem tw7464349460199391129:True:=⟨⟩
theorem tw15299784882216019245:True:=⟨⟩
theorem tw17610874363131621231:True:=⟨⟩
theorem tw2368956743884689001:True:=⟨⟩
theorem tw1895662084351745633:True:=⟨⟩
theorem tw9416134620463637164:True:=⟨⟩
theorem tw4308055783227302366:True:=⟨⟩
theorem tw7234341207954519175:True:=⟨⟩
theorem tw3368642863436220289:True:=⟨⟩
theorem tw6179217292850510417:True:=⟨⟩
theorem tw1825212206706874887:True:=⟨⟩
theorem tw13878119705070472447:True:=⟨⟩
theorem tw3738613861172971833:True:=⟨⟩
theorem tw3171945377771715908:True:=⟨⟩
theorem tw3805035811063960315:True:=⟨⟩
theorem tw11765526263173853124:True:=⟨⟩
theorem tw2120049726869499879:True:=⟨⟩
theorem tw15665345801266203026:True:=⟨⟩
theorem tw3421143427644895659:True:=⟨⟩
theorem tw13272326203687018202:True:=⟨⟩
theorem tw7866171193922856636:True:=⟨⟩
theorem tw14393621264101495376:True:=⟨⟩
theorem tw11443585172727557398:True:=⟨⟩
theorem tw4638397500219936044:True:=⟨⟩
theorem tw9603474283380427329:True:=⟨⟩
theorem tw747020170614145461:True:=⟨⟩
theorem tw3061934924730196883:True:=⟨⟩
theorem tw17556362233058437254:True:=⟨⟩
theorem tw6297483033630107995:True:=⟨⟩
theorem tw1743182812556106140:True:=⟨⟩
theorem tw12081000838766417083:True:=⟨⟩
theorem tw7570449164904575404:True:=⟨⟩
theorem tw1767029856377843134:True:=⟨⟩
theorem tw9535048676862386432:True:=⟨⟩
theorem tw16824434313015112241:True:=⟨⟩
theorem tw13485583043228784944:True:=⟨⟩
theorem tw8412061972530962200:True:=⟨⟩
theorem tw6029212545867594574:True:=⟨⟩
theorem tw13809418772235734990:True:=⟨⟩
theorem tw7649148668067305495:True:=⟨⟩
theorem tw2353772813914376507:True:=⟨⟩
theorem tw12713798355304348077:True:=⟨⟩
theorem tw7844014472688107639:True:=⟨⟩
theorem tw16085681184842982151:True:=⟨⟩
theorem tw15011855658235331910:True:=⟨⟩
theorem tw16315967109070371421:True:=⟨⟩
theorem tw17639905134545273715:True:=⟨⟩
theorem tw8611049385178741872:True:=⟨⟩
theorem tw16849935069848859783:True:=⟨⟩
theorem tw15004403466752247366:True:=⟨⟩
theorem tw17090786596098351899:True:=⟨⟩
theorem tw17059077152756875831:True:=⟨⟩
theorem tw433435738213292304:True:=⟨⟩
theorem tw801808884881317503:True:=⟨⟩
theorem tw13266691424881502790:True:=⟨⟩
theorem tw8210857074953655376:True:=⟨⟩
theorem tw10377118384462767475:True:=⟨⟩
theorem tw10557529975013368503:True:=⟨⟩
theorem tw16190159692850278555:True:=⟨⟩
theorem tw7998645528613950358:True:=⟨⟩
theorem tw6744035787330081912:True:=⟨⟩
theorem tw6704221970686556512:True:=⟨⟩
theorem tw5459388046185834267:True:=⟨⟩
theorem tw2706421291572196254:True:=⟨⟩
theorem tw2879265840797664422:True:=⟨⟩
theorem tw2842436978866088497:True:=⟨⟩
theorem tw2823424206837821:True:=⟨⟩
theorem tw3343350627052685006:True:=⟨⟩
theorem tw12768703107173785408:True:=⟨⟩
theorem tw13216395729534593743:True:=⟨⟩
theorem tw4898811658799180423:True:=⟨⟩
theorem tw9490138020232853944:True:=⟨⟩
theorem tw4711483188399962371:True:=⟨⟩
theorem tw14394610943699905064:True:=⟨⟩
theorem tw7141291473935353640:True:=⟨⟩
theorem tw3295677704292753508:True:=⟨⟩
theorem tw12673401844520215979:True:=⟨⟩
theorem tw8679508648394269756:True:=⟨⟩
theorem tw8875859780818120111:True:=⟨⟩
theorem tw4248187884516039978:True:=⟨⟩
theorem tw16174578877816101563:True:=⟨⟩
theorem tw7681127026994781369:True:=⟨⟩
theorem tw1842252524191224087:True:=⟨⟩
theorem tw203079586649545305:True:=⟨⟩
theorem tw12612097333293406643:True:=⟨⟩
theorem tw12766420529164255326:True:=⟨⟩
theorem tw16994553528151906008:True:=⟨⟩
theorem tw497362814955058383:True:=⟨⟩
theorem tw1710191058910333989:True:=⟨⟩
theorem tw16167385587669587607:True:=⟨⟩
theorem tw3548822763726588670:True:=⟨⟩
theorem tw6466468961680519500:True:=⟨⟩
theorem tw8798468395605664500:True:=⟨⟩
theorem tw5046041164805634588:True:=⟨⟩
theorem tw14580640167168384385:True:=⟨⟩
theorem tw11512763734769535097:True:=⟨⟩
theorem tw17110582491089976703:True:=⟨⟩
theorem tw8159599396304906253:True:=⟨⟩
theorem tw16919993261182347774:True:=⟨⟩
theorem tw16271207980013304357:True:=⟨⟩
theorem tw10001560162330262208:True:=⟨⟩
theorem tw7827946352075843732:True:=⟨⟩
theorem tw15119264126470660703:True:=⟨⟩
theorem tw5809069158338403058:True:=⟨⟩
theorem tw8614114438856685276:True:=⟨⟩
theorem tw9343892305645397074:True:=⟨⟩
theorem tw3566241662679091632:True:=⟨⟩
theorem tw177886055343714562:True:=⟨⟩
theorem tw4098138829793727751:True:=⟨⟩
theorem tw17247745049825072918:True:=⟨⟩
theorem tw11175666747320366580:True:=⟨⟩
theorem tw7062054698953432681:True:=⟨⟩
theorem tw17253324422718139942:True:=⟨⟩
theorem tw10778713860628923928:True:=⟨⟩
theorem tw7930497697569812758:True:=⟨⟩
theorem tw3606227612023458806:True:=⟨⟩
theorem tw12871114424281460542:True:=⟨⟩
theorem tw17447974948345130547:True:=⟨⟩
theorem tw10150393847350017786:True:=⟨⟩
theorem tw11603917005057652765:True:=⟨⟩
theorem tw18091748730768364366:True:=⟨⟩
theorem tw3338241499147256261:True:=⟨⟩
theorem tw17479118432010137132:True:=⟨⟩
theorem tw17446121138525537021:True:=⟨⟩
theorem tw17288788462897274304:True:=⟨⟩
theorem tw17857810911241149287:True:=⟨⟩
theorem tw2463073124797404080:True:=⟨⟩
theorem tw8795152286542664488:True:=⟨⟩
theorem tw10396206752427355955:True:=⟨⟩
theorem tw800340439275396594:True:=⟨⟩
theorem tw161508339185127431:True:=⟨⟩
theorem tw13023136033114196389:True:=⟨⟩
theorem tw14770605652298737259:True:=⟨⟩
theorem tw6333179590090623725:True:=⟨⟩
theorem tw3808219876431612420:True:=⟨⟩
theorem tw2568431030199494880:True:=⟨⟩
theorem tw13591822826683559035:True:=⟨⟩
theorem tw12139434011111663203:True:=⟨⟩
theorem tw9514976450800756784:True:=⟨⟩
theorem tw17716277842202876043:True:=⟨⟩
theorem tw11931979963029589404:True:=⟨⟩
theorem tw1472222094109384180:True:=⟨⟩
end PySem.W.Fast
open PySem PySem.W PyProof.Rows
set_option maxRecDepth 100000 in
set_option maxHeartbeats 0 in
theorem PySem.Challenge.cw_countgen_k59_whole_kinded_terms_holds : PySem.Challenge.rw_countgen_k59_whole_kinded_terms.Holds := by
 w_on;o_law;k_head;(case hw=>w_witness2)
 k_fill
 refine L2.Ye9 (l:=PySem.Challenge.rw_countgen_k59_whole_kinded_terms) 169 "_law_script" KW.uT ["_law_script","_law_first","_law_high","_law_raw","_law_counts","_law_cell","_law_size","_law_kinds","_law_name"] rfl rfl ⟨rfl,by decide,by decide,rfl⟩ KW.X6 (fun w h Y=>by first | exact PySem.W.kIn_of Y | exact PySem.W.km_in_of Y) ?F
 case F =>
  intro w mg h KX G;refine' ⟨L2.Tt KX G ?a ?l ?c ?k (fun _ _ _ _ _ _ _ _ => .of_eq rfl),fun base=>KW.YfA ⟨?ZN,?ZT,?ZP,?ZU,?Ck,?qM,?Cm,?qN,?qO,?nq,?qP,?qQ,?qR,?qT,?Cp,?Cq,?Cr,?Cu,?Cv,?Cw,?Cy,?Cz,?CG,?qU,?qW,?nA,?CJ,?CK,?CN,?CP,?CQ,?ZO,?ZV,?ZQ,?ZW,?CT,?CV,?CW,?CZ,?Dc,?Dd,?Df,?Dg,?Dh,?Di,?Dj,?Zz,?jP,?Dk,?Dl,?Dm,?Dn,?eG,?Dp,?Dq,?Dr,?Ds,?Dt,?ZZ,?ZL,?Du,?ZM,?ZF,?ZI,?ZR,?Zy,?ZD,?Zs,?Za,?Z9,?Zg,?Ze,?Zh,?Zb,?Zl,?Zk,?Zn,?Zr,?Zm,?Zj,?Zc,?Zi,?Z8,?Z7,?Zf,?Zd,?bB,?iR,?qw,?qx,?aV,?iu,?iW,?bT,?aY,?g8,?bC,?Zq,?aF,?aR,?fL,?fM,?ZY,?bF,?dO,?Zv,?ig⟩ _ w base⟩;(case a=>k_is);(case l=>k_is);(case c=>k_is);(case k=>k_is)
  case Cr =>
   refine' L2.Wz KX G ["self","low","high"] ?aC ?mk ?kc ?a ?i ?l ?c ?k (fun _ _ _ _ _ _ us hl=>by obtain ⟨_,_,_,rfl⟩:=KW.dg hl;rfl);(case aC=>k_is);(case mk=>k_is);(case kc=>k_is);(case a=>k_is);(case i=>k_is);(case l=>k_is);(case c=>k_is);(case k=>k_is)
  case Cu =>
   refine' L2.Wz KX G ["self","marks","parts"] ?aC ?mk ?kc ?a ?i ?l ?c ?k (fun _ _ _ _ _ _ us hl=>by obtain ⟨_,_,_,rfl⟩:=KW.dg hl;rfl);(case aC=>k_is);(case mk=>k_is);(case kc=>k_is);(case a=>k_is);(case i=>k_is);(case l=>k_is);(case c=>k_is);(case k=>k_is)
  case Cv =>
   refine' L2.Wz KX G ["self"] ?aC ?mk ?kc ?a ?i ?l ?c ?k (fun _ _ _ _ _ _ us hl=>by obtain ⟨_,rfl⟩:=KW.dU hl;rfl);(case aC=>k_is);(case mk=>k_is);(case kc=>k_is);(case a=>k_is);(case i=>k_is);(case l=>k_is);(case c=>k_is);(case k=>k_is)
  case Cw =>
   refine' L2.Wz KX G ["self","parts"] ?aC ?mk ?kc ?a ?i ?l ?c ?k (fun _ _ _ _ _ _ us hl=>by obtain ⟨_,_,rfl⟩:=KW.bK hl;rfl);(case aC=>k_is);(case mk=>k_is);(case kc=>k_is);(case a=>k_is);(case i=>k_is);(case l=>k_is);(case c=>k_is);(case k=>k_is)
  case Cy =>
   refine' L2.Wz KX G ["self","parts"] ?aC ?mk ?kc ?a ?i ?l ?c ?k (fun _ _ _ _ _ _ us hl=>by obtain ⟨_,_,rfl⟩:=KW.bK hl;rfl);(case aC=>k_is);(case mk=>k_is);(case kc=>k_is);(case a=>k_is);(case i=>k_is);(case l=>k_is);(case c=>k_is);(case k=>k_is)
  case Cz =>
   refine' L2.Wz KX G ["self","book"] ?aC ?mk ?kc ?a ?i ?l ?c ?k (fun _ _ _ _ _ _ us hl=>by obtain ⟨_,_,rfl⟩:=KW.bK hl;rfl);(case aC=>k_is);(case mk=>k_is);(case kc=>k_is);(case a=>k_is);(case i=>k_is);(case l=>k_is);(case c=>k_is);(case k=>k_is)
  case CP =>
   refine' L2.Wz KX G ["self","place","choice","rest"] ?aC ?mk ?kc ?a ?i ?l ?c ?k (fun _ _ _ _ _ _ us hl=>by obtain ⟨_,_,_,_,rfl⟩:=KW.Cj hl;rfl);(case aC=>k_is);(case mk=>k_is);(case kc=>k_is);(case a=>k_is);(case i=>k_is);(case l=>k_is);(case c=>k_is);(case k=>k_is)
  case ZN =>
   refine' L2.Y3 KX G ["self","size"] ?a ?i ?l ?c ?k (fun _ _ _ _ _ _ us hl=>by obtain ⟨_,_,rfl⟩:=KW.bK hl;rfl);(case a=>k_is);(case i=>k_is);(case l=>k_is);(case c=>k_is);(case k=>k_is)
  case ZT =>
   refine' L2.Y3 KX G ["self","size"] ?a ?i ?l ?c ?k (fun _ _ _ _ _ _ us hl=>by obtain ⟨_,_,rfl⟩:=KW.bK hl;rfl);(case a=>k_is);(case i=>k_is);(case l=>k_is);(case c=>k_is);(case k=>k_is)
  case ZP =>
   refine' L2.Y3 KX G ["self","size"] ?a ?i ?l ?c ?k (fun _ _ _ _ _ _ us hl=>by obtain ⟨_,_,rfl⟩:=KW.bK hl;rfl);(case a=>k_is);(case i=>k_is);(case l=>k_is);(case c=>k_is);(case k=>k_is)
  case ZU =>
   refine' L2.Y3 KX G ["self","size"] ?a ?i ?l ?c ?k (fun _ _ _ _ _ _ us hl=>by obtain ⟨_,_,rfl⟩:=KW.bK hl;rfl);(case a=>k_is);(case i=>k_is);(case l=>k_is);(case c=>k_is);(case k=>k_is)
  case Ck =>
   refine' L2.YM KX G ["size"] ?a ?l ?c ?k (fun _ _ _ _ _ _ us hl=>by obtain ⟨_,rfl⟩:=KW.dU hl;rfl);(case a=>k_is);(case l=>k_is);(case c=>k_is);(case k=>k_is)
  case qM =>
   refine' L2.Y3 KX G ["self","size"] ?a ?i ?l ?c ?k (fun _ _ _ _ _ _ us hl=>by obtain ⟨_,_,rfl⟩:=KW.bK hl;rfl);(case a=>k_is);(case i=>k_is);(case l=>k_is);(case c=>k_is);(case k=>k_is)
  case Cm =>
   refine' L2.YM KX G ["blocks"] ?a ?l ?c ?k (fun _ _ _ _ _ _ us hl=>by obtain ⟨_,rfl⟩:=KW.dU hl;rfl);(case a=>k_is);(case l=>k_is);(case c=>k_is);(case k=>k_is)
  case qN =>
   refine' L2.Y3 KX G ["self","place","left"] ?a ?i ?l ?c ?k (fun _ _ _ _ _ _ us hl=>by obtain ⟨_,_,_,rfl⟩:=KW.dg hl;rfl);(case a=>k_is);(case i=>k_is);(case l=>k_is);(case c=>k_is);(case k=>k_is)
  case qO =>
   refine' L2.Y3 KX G ["self","size"] ?a ?i ?l ?c ?k (fun _ _ _ _ _ _ us hl=>by obtain ⟨_,_,rfl⟩:=KW.bK hl;rfl);(case a=>k_is);(case i=>k_is);(case l=>k_is);(case c=>k_is);(case k=>k_is)
  case nq =>
   refine' L2.Y3 KX G ["self","place","left"] ?a ?i ?l ?c ?k (fun _ _ _ _ _ _ us hl=>by obtain ⟨_,_,_,rfl⟩:=KW.dg hl;rfl);(case a=>k_is);(case i=>k_is);(case l=>k_is);(case c=>k_is);(case k=>k_is)
  case qP =>
   refine' L2.Y3 KX G ["self","size"] ?a ?i ?l ?c ?k (fun _ _ _ _ _ _ us hl=>by obtain ⟨_,_,rfl⟩:=KW.bK hl;rfl);(case a=>k_is);(case i=>k_is);(case l=>k_is);(case c=>k_is);(case k=>k_is)
  case qQ =>
   refine' L2.Y3 KX G ["self","size"] ?a ?i ?l ?c ?k (fun _ _ _ _ _ _ us hl=>by obtain ⟨_,_,rfl⟩:=KW.bK hl;rfl);(case a=>k_is);(case i=>k_is);(case l=>k_is);(case c=>k_is);(case k=>k_is)
  case qR =>
   refine' L2.Y3 KX G ["self","size"] ?a ?i ?l ?c ?k (fun _ _ _ _ _ _ us hl=>by obtain ⟨_,_,rfl⟩:=KW.bK hl;rfl);(case a=>k_is);(case i=>k_is);(case l=>k_is);(case c=>k_is);(case k=>k_is)
  case qT =>
   refine' L2.Y3 KX G ["self","size"] ?a ?i ?l ?c ?k (fun _ _ _ _ _ _ us hl=>by obtain ⟨_,_,rfl⟩:=KW.bK hl;rfl);(case a=>k_is);(case i=>k_is);(case l=>k_is);(case c=>k_is);(case k=>k_is)
  case Cp =>
   refine' L2.YM KX G ["shape"] ?a ?l ?c ?k (fun _ _ _ _ _ _ us hl=>by obtain ⟨_,rfl⟩:=KW.dU hl;rfl);(case a=>k_is);(case l=>k_is);(case c=>k_is);(case k=>k_is)
  case Cq =>
   refine' L2.Ygo KX G ["self"] ?aB ?ga ?rd ?a ?l ?c ?k (fun _ _ _ _ _ _ us hl=>by obtain ⟨_,rfl⟩:=KW.dU hl;rfl);(case aB=>k_is);(case ga=>k_is);(case rd=>k_is);(case a=>k_is);(case l=>k_is);(case c=>k_is);(case k=>k_is)
  case CG =>
   refine' L2.YM KX G ["book","name"] ?a ?l ?c ?k (fun _ _ _ _ _ _ us hl=>by obtain ⟨_,_,rfl⟩:=KW.bK hl;rfl);(case a=>k_is);(case l=>k_is);(case c=>k_is);(case k=>k_is)
  case qU =>
   refine' L2.Y3 KX G ["self","shape"] ?a ?i ?l ?c ?k (fun _ _ _ _ _ _ us hl=>by obtain ⟨_,_,rfl⟩:=KW.bK hl;rfl);(case a=>k_is);(case i=>k_is);(case l=>k_is);(case c=>k_is);(case k=>k_is)
  case qW =>
   refine' L2.Y3 KX G ["self","shape"] ?a ?i ?l ?c ?k (fun _ _ _ _ _ _ us hl=>by obtain ⟨_,_,rfl⟩:=KW.bK hl;rfl);(case a=>k_is);(case i=>k_is);(case l=>k_is);(case c=>k_is);(case k=>k_is)
  case nA =>
   refine' L2.Y3 KX G ["self","shape"] ?a ?i ?l ?c ?k (fun _ _ _ _ _ _ us hl=>by obtain ⟨_,_,rfl⟩:=KW.bK hl;rfl);(case a=>k_is);(case i=>k_is);(case l=>k_is);(case c=>k_is);(case k=>k_is)
  case CJ =>
   refine' L2.YM KX G ["book","shape"] ?a ?l ?c ?k (fun _ _ _ _ _ _ us hl=>by obtain ⟨_,_,rfl⟩:=KW.bK hl;rfl);(case a=>k_is);(case l=>k_is);(case c=>k_is);(case k=>k_is)
  case CK =>
   refine' L2.YM KX G ["book","shape","size"] ?a ?l ?c ?k (fun _ _ _ _ _ _ us hl=>by obtain ⟨_,_,_,rfl⟩:=KW.dg hl;rfl);(case a=>k_is);(case l=>k_is);(case c=>k_is);(case k=>k_is)
  case CN =>
   refine' L2.YM KX G ["book","shape","size"] ?a ?l ?c ?k (fun _ _ _ _ _ _ us hl=>by obtain ⟨_,_,_,rfl⟩:=KW.dg hl;rfl);(case a=>k_is);(case l=>k_is);(case c=>k_is);(case k=>k_is)
  case CQ =>
   refine' L2.YM KX G ["blocks","number"] ?a ?l ?c ?k (fun _ _ _ _ _ _ us hl=>by obtain ⟨_,_,rfl⟩:=KW.bK hl;rfl);(case a=>k_is);(case l=>k_is);(case c=>k_is);(case k=>k_is)
  case ZO =>
   refine' L2.Y3 KX G ["self","size","number"] ?a ?i ?l ?c ?k (fun _ _ _ _ _ _ us hl=>by obtain ⟨_,_,_,rfl⟩:=KW.dg hl;rfl);(case a=>k_is);(case i=>k_is);(case l=>k_is);(case c=>k_is);(case k=>k_is)
  case ZV =>
   refine' L2.Y3 KX G ["self","size","number"] ?a ?i ?l ?c ?k (fun _ _ _ _ _ _ us hl=>by obtain ⟨_,_,_,rfl⟩:=KW.dg hl;rfl);(case a=>k_is);(case i=>k_is);(case l=>k_is);(case c=>k_is);(case k=>k_is)
  case ZQ =>
   refine' L2.Y3 KX G ["self","size","number"] ?a ?i ?l ?c ?k (fun _ _ _ _ _ _ us hl=>by obtain ⟨_,_,_,rfl⟩:=KW.dg hl;rfl);(case a=>k_is);(case i=>k_is);(case l=>k_is);(case c=>k_is);(case k=>k_is)
  case ZW =>
   refine' L2.Y3 KX G ["self","size","number"] ?a ?i ?l ?c ?k (fun _ _ _ _ _ _ us hl=>by obtain ⟨_,_,_,rfl⟩:=KW.dg hl;rfl);(case a=>k_is);(case i=>k_is);(case l=>k_is);(case c=>k_is);(case k=>k_is)
  case CT =>
   refine' L2.YM KX G ["maker","size"] ?a ?l ?c ?k (fun _ _ _ _ _ _ us hl=>by obtain ⟨_,_,rfl⟩:=KW.bK hl;rfl);(case a=>k_is);(case l=>k_is);(case c=>k_is);(case k=>k_is)
  case CV =>
   refine' L2.YM KX G ["count","most"] ?a ?l ?c ?k (fun _ _ _ _ _ _ us hl=>by obtain ⟨_,_,rfl⟩:=KW.bK hl;rfl);(case a=>k_is);(case l=>k_is);(case c=>k_is);(case k=>k_is)
  case CW =>
   refine' L2.Ygp KX G ["book","shape","size","most"] [.int 400] 3 ?a ?l ?c ?k ?t ?s ?v ?e ?b;(case a=>k_is);(case l=>k_is);(case c=>k_is);(case k=>k_is);(case t=>k_is);(case s=>rfl);(case v=>exact .cons ⟨_,rfl⟩ (.nil));(case e=>rfl);(case b=>exact fun us hl=>match us,hl with | [_,_,_],_=>⟨_,rfl,rfl⟩)
  case CZ =>
   refine' L2.YM KX G ["book","shape","size","number"] ?a ?l ?c ?k (fun _ _ _ _ _ _ us hl=>by obtain ⟨_,_,_,_,rfl⟩:=KW.Cj hl;rfl);(case a=>k_is);(case l=>k_is);(case c=>k_is);(case k=>k_is)
  case Dc =>
   refine' L2.YM KX G ["thing"] ?a ?l ?c ?k (fun _ _ _ _ _ _ us hl=>by obtain ⟨_,rfl⟩:=KW.dU hl;rfl);(case a=>k_is);(case l=>k_is);(case c=>k_is);(case k=>k_is)
  case Dd =>
   refine' L2.YM KX G ["branches","mark"] ?a ?l ?c ?k (fun _ _ _ _ _ _ us hl=>by obtain ⟨_,_,rfl⟩:=KW.bK hl;rfl);(case a=>k_is);(case l=>k_is);(case c=>k_is);(case k=>k_is)
  case Df =>
   refine' L2.YM KX G ["branches","value"] ?a ?l ?c ?k (fun _ _ _ _ _ _ us hl=>by obtain ⟨_,_,rfl⟩:=KW.bK hl;rfl);(case a=>k_is);(case l=>k_is);(case c=>k_is);(case k=>k_is)
  case Dg =>
   refine' L2.YM KX G ["shape","value"] ?a ?l ?c ?k (fun _ _ _ _ _ _ us hl=>by obtain ⟨_,_,rfl⟩:=KW.bK hl;rfl);(case a=>k_is);(case l=>k_is);(case c=>k_is);(case k=>k_is)
  case Dh =>
   refine' L2.YM KX G ["book","shape","value"] ?a ?l ?c ?k (fun _ _ _ _ _ _ us hl=>by obtain ⟨_,_,_,rfl⟩:=KW.dg hl;rfl);(case a=>k_is);(case l=>k_is);(case c=>k_is);(case k=>k_is)
  case Di =>
   refine' L2.YM KX G ["keys"] ?a ?l ?c ?k (fun _ _ _ _ _ _ us hl=>by obtain ⟨_,rfl⟩:=KW.dU hl;rfl);(case a=>k_is);(case l=>k_is);(case c=>k_is);(case k=>k_is)
  case Dj =>
   refine' L2.YM KX G ["shape","value","keys"] ?a ?l ?c ?k (fun _ _ _ _ _ _ us hl=>by obtain ⟨_,_,_,rfl⟩:=KW.dg hl;rfl);(case a=>k_is);(case l=>k_is);(case c=>k_is);(case k=>k_is)
  case Zz =>
   refine' L2.YM KX G ["book","shape","value"] ?a ?l ?c ?k (fun _ _ _ _ _ _ us hl=>by obtain ⟨_,_,_,rfl⟩:=KW.dg hl;rfl);(case a=>k_is);(case l=>k_is);(case c=>k_is);(case k=>k_is)
  case jP =>
   refine' L2.YM KX G ["book","shape","value"] ?a ?l ?c ?k (fun _ _ _ _ _ _ us hl=>by obtain ⟨_,_,_,rfl⟩:=KW.dg hl;rfl);(case a=>k_is);(case l=>k_is);(case c=>k_is);(case k=>k_is)
  case Dk =>
   refine' L2.YM KX G ["book","shape","value"] ?a ?l ?c ?k (fun _ _ _ _ _ _ us hl=>by obtain ⟨_,_,_,rfl⟩:=KW.dg hl;rfl);(case a=>k_is);(case l=>k_is);(case c=>k_is);(case k=>k_is)
  case Dl =>
   refine' L2.YM KX G ["book","shape","value"] ?a ?l ?c ?k (fun _ _ _ _ _ _ us hl=>by obtain ⟨_,_,_,rfl⟩:=KW.dg hl;rfl);(case a=>k_is);(case l=>k_is);(case c=>k_is);(case k=>k_is)
  case Dm =>
   refine' L2.YM KX G ["term"] ?a ?l ?c ?k (fun _ _ _ _ _ _ us hl=>by obtain ⟨_,rfl⟩:=KW.dU hl;rfl);(case a=>k_is);(case l=>k_is);(case c=>k_is);(case k=>k_is)
  case Dn =>
   refine' L2.YM KX G ["mark","inner"] ?a ?l ?c ?k (fun _ _ _ _ _ _ us hl=>by obtain ⟨_,_,rfl⟩:=KW.bK hl;rfl);(case a=>k_is);(case l=>k_is);(case c=>k_is);(case k=>k_is)
  case eG =>
   refine' L2.YM KX G ["term"] ?a ?l ?c ?k (fun _ _ _ _ _ _ us hl=>by obtain ⟨_,rfl⟩:=KW.dU hl;rfl);(case a=>k_is);(case l=>k_is);(case c=>k_is);(case k=>k_is)
  case Dp =>
   refine' L2.YM KX G ["names"] ?a ?l ?c ?k (fun _ _ _ _ _ _ us hl=>by obtain ⟨_,rfl⟩:=KW.dU hl;rfl);(case a=>k_is);(case l=>k_is);(case c=>k_is);(case k=>k_is)
  case Dq =>
   refine' L2.YM KX G ["high"] ?a ?l ?c ?k (fun _ _ _ _ _ _ us hl=>by obtain ⟨_,rfl⟩:=KW.dU hl;rfl);(case a=>k_is);(case l=>k_is);(case c=>k_is);(case k=>k_is)
  case Dr =>
   refine' L2.YM KX G [] ?a ?l ?c ?k (fun _ _ _ _ _ _ us hl=>match us,hl with | [],_=>rfl);(case a=>k_is);(case l=>k_is);(case c=>k_is);(case k=>k_is)
  case Ds =>
   refine' L2.YM KX G ["high"] ?a ?l ?c ?k (fun _ _ _ _ _ _ us hl=>by obtain ⟨_,rfl⟩:=KW.dU hl;rfl);(case a=>k_is);(case l=>k_is);(case c=>k_is);(case k=>k_is)
  case Dt =>
   refine' L2.YM KX G ["high"] ?a ?l ?c ?k (fun _ _ _ _ _ _ us hl=>by obtain ⟨_,rfl⟩:=KW.dU hl;rfl);(case a=>k_is);(case l=>k_is);(case c=>k_is);(case k=>k_is)
  case ZZ =>
   refine' L2.YM KX G ["_law_term"] ?a ?l ?c ?k (fun _ _ _ _ _ _ us hl=>by obtain ⟨_,rfl⟩:=KW.dU hl;rfl);(case a=>k_is);(case l=>k_is);(case c=>k_is);(case k=>k_is)
  case ZL =>
   refine' L2.YM KX G ["_law_term","_law_high"] ?a ?l ?c ?k (fun _ _ _ _ _ _ us hl=>by obtain ⟨_,_,rfl⟩:=KW.bK hl;rfl);(case a=>k_is);(case l=>k_is);(case c=>k_is);(case k=>k_is)
  case Du =>
   refine' L2.YM KX G ["_law_raw","_law_high","_law_counts","_law_cell"] ?a ?l ?c ?k (fun _ _ _ _ _ _ us hl=>by obtain ⟨_,_,_,_,rfl⟩:=KW.Cj hl;rfl);(case a=>k_is);(case l=>k_is);(case c=>k_is);(case k=>k_is)
  case ZM =>
   refine' ⟨?a,?b,?c,?d⟩;(case a=>k_is);(case b=>k_is);(case c=>k_is);(case d=>k_is)
  case ZF =>
   refine' L2.YV ?a;(case a=>k_is)
  case ZI =>
   refine' L2.YV ?a;(case a=>k_is)
  case ZR =>
   refine' L2.YV ?a;(case a=>k_is)
  case Zy =>
   refine' ⟨?a,?b,?c,?d⟩;(case a=>k_is);(case b=>k_is);(case c=>k_is);(case d=>k_is)
  case ZD =>
   refine' L2.YV ?a;(case a=>k_is)
  case Zs =>
   refine' L2.YV ?a;(case a=>k_is)
  case Za =>
   refine' ⟨?a,?b,?c,?d⟩;(case a=>k_is);(case b=>k_is);(case c=>k_is);(case d=>k_is)
  case Z9 =>
   refine' L2.YV ?a;(case a=>k_is)
  case Zg =>
   refine' L2.YV ?a;(case a=>k_is)
  case Ze =>
   refine' L2.YV ?a;(case a=>k_is)
  case Zh =>
   refine' ⟨?a,?b,?c,?d⟩;(case a=>k_is);(case b=>k_is);(case c=>k_is);(case d=>k_is)
  case Zb =>
   refine' L2.YV ?a;(case a=>k_is)
  case Zl =>
   refine' L2.YV ?a;(case a=>k_is)
  case Zk =>
   refine' L2.YV ?a;(case a=>k_is)
  case Zn =>
   refine' ⟨?a,?b,?c,?d⟩;(case a=>k_is);(case b=>k_is);(case c=>k_is);(case d=>k_is)
  case Zr =>
   refine' L2.YV ?a;(case a=>k_is)
  case Zm =>
   refine' L2.YV ?a;(case a=>k_is)
  case Zj =>
   refine' ⟨?a,?b,?c,?d⟩;(case a=>k_is);(case b=>k_is);(case c=>k_is);(case d=>k_is)
  case Zc =>
   refine' L2.YV ?a;(case a=>k_is)
  case Zi =>
   refine' L2.YV ?a;(case a=>k_is)
  case Z8 =>
   refine' ⟨?a,?b,?c,?d⟩;(case a=>k_is);(case b=>k_is);(case c=>k_is);(case d=>k_is)
  case Z7 =>
   refine' L2.YV ?a;(case a=>k_is)
  case Zf =>
   refine' L2.YV ?a;(case a=>k_is)
  case Zd =>
   refine' L2.YV ?a;(case a=>k_is)
  case bB =>
   refine' L2.G4 KX G ?a;(case a=>k_is)
  case iR =>
   refine' L2.VP KX G ?a ?l ?z ?r;(case a=>k_is);(case l=>k_is);(case z=>decide);(case r=>exact (.cons ⟨_,rfl⟩ (.cons ⟨_,rfl⟩ (.cons ⟨_,rfl⟩ .nil))))
  case qw =>
   refine' L2.VP KX G ?a ?l ?z ?r;(case a=>k_is);(case l=>k_is);(case z=>decide);(case r=>exact (.cons ⟨_,rfl⟩ (.cons ⟨_,rfl⟩ (.cons ⟨_,rfl⟩ (.cons ⟨_,rfl⟩ .nil)))))
  case qx =>
   refine' L2.VP KX G ?a ?l ?z ?r;(case a=>k_is);(case l=>k_is);(case z=>decide);(case r=>exact (.cons ⟨_,rfl⟩ (.cons ⟨_,rfl⟩ (.cons ⟨_,rfl⟩ (.cons ⟨_,rfl⟩ (.cons ⟨_,rfl⟩ (.cons ⟨_,rfl⟩ (.cons ⟨_,rfl⟩ .nil))))))))
  case aV =>
   refine' L2.G4 KX G ?a;(case a=>k_is)
  case iu =>
   refine' L2.VP KX G ?a ?l ?z ?r;(case a=>k_is);(case l=>k_is);(case z=>decide);(case r=>exact (.cons ⟨_,rfl⟩ (.cons ⟨_,rfl⟩ .nil)))
  case iW =>
   refine' L2.VP KX G ?a ?l ?z ?r;(case a=>k_is);(case l=>k_is);(case z=>decide);(case r=>exact (.cons ⟨_,rfl⟩ (.cons ⟨_,rfl⟩ .nil)))
  case bT =>
   refine' PySem.W.mg_none_of KX G ?a;(case a=>k_is)
  case aY =>
   refine' PySem.W.mg_none_of KX G ?a;(case a=>k_is)
  case g8 =>
   refine' PySem.W.mg_none_of KX G ?a;(case a=>k_is)
  case bC =>
   refine' PySem.W.mg_none_of KX G ?a;(case a=>k_is)
  case Zq =>
   refine' PySem.W.mg_none_of KX G ?a;(case a=>k_is)
  case aF =>
   refine' PySem.W.mg_none_of KX G ?a;(case a=>k_is)
  case aR =>
   refine' PySem.W.mg_none_of KX G ?a;(case a=>k_is)
  case fL =>
   refine' PySem.W.mg_none_of KX G ?a;(case a=>k_is)
  case fM =>
   refine' PySem.W.mg_none_of KX G ?a;(case a=>k_is)
  case ZY =>
   refine' PySem.W.mg_none_of KX G ?a;(case a=>k_is)
  case bF =>
   refine' PySem.W.mg_none_of KX G ?a;(case a=>k_is)
  case dO =>
   refine' PySem.W.mg_none_of KX G ?a;(case a=>k_is)
  case Zv =>
   refine' PySem.W.mg_none_of KX G ?a;(case a=>k_is)
  case ig =>
   refine' PySem.W.mg_none_of KX G ?a;(case a=>k_is)
