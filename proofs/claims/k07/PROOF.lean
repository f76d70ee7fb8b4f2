import PyProof.Rows.All
import Wide.All
import OpenK.AllK
import Wide.FinOn
import Lean
import PyProof.EqAt
import PyProof.EqKinds
import PyProof.TupleCall
import PyProof.NeData
import KE.KTryMore
import PyProof.ExcBaseAll.ValueError
import PyProof.ExcArgsOwn
import KE.KIntText
import PyProof.Rows.SetFrom
import PyProof.SetRoads
import PyProof.StrWalks
import PyProof.ListStr
import PyProof.Rows.StrSplitCount
import PyProof.MeetsStr
import PyProof.MeetsStr2
import PyProof.StrOps2
import KE.KTryOn
import OpenK.KMake
import PyProof.ReprRoads
import PyProof.ReprLen
import PyProof.StrLawsRepr
import PyProof.CallFns
import KE.KSortTup
import PyProof.StrCalls6
import PyProof.MeetsStr3
import PySem.Challenge.RW_countgen_k07_whole_books_grounded
set_option compiler.extract_closed false
set_option Elab.async false
set_option linter.all false
set_option maxRecDepth 100000
namespace L2
open PySem PySem.Spec PyProof.Rows
abbrev Key:=Sum Int Str
def UP:Key->Value->Bool
 | .inl k,v=>Value.isInt k v
 | .inr x,v=>Value.isStrOf x v
def Ob (w:World):Key->Int
 | .inl k=>hashInt k
 | .inr x=>hashStr w x
theorem Xj:∀ {k:Key} {v:Value},UP k v=true->(∃ i t,k=Sum.inl i/\v=Value.int i t)\/(∃ x t,k=Sum.inr x/\v=Value.str x t)
 | .inl i,v,h=>by
  obtain ⟨t,e⟩:=Value.isInt_shape (k:=i) (v:=v) h;exact .inl ⟨i,t,rfl,e⟩
 | .inr x,v,h=>by
  obtain ⟨t,e⟩:=Value.isStrOf_shape (x:=x) (v:=v) h;exact .inr ⟨x,t,rfl,e⟩
theorem Py (i:Int) (t:Tok):UP (.inl i) (.int i t)=true:=by simp [UP,Value.isInt]
theorem Pz (x:Str) (t:Tok):UP (.inr x) (.str x t)=true:=by simp [UP,Value.isStrOf]
theorem PJ (a b:Int):decide ((Sum.inl a:Key)=Sum.inl b)=(a==b):=by
 by_cases e:a=b
 ·subst e;simp
 ·have h:¬ (Sum.inl a:Key)=Sum.inl b:=fun q=>e (Sum.inl.inj q)
  rw [decide_eq_false h];exact (beq_eq_false_iff_ne.mpr e).symm
theorem PK (a b:Str):decide ((Sum.inr a:Key)=Sum.inr b)=decide (a=b):=by
 by_cases e:a=b
 ·subst e;simp
 ·have h:¬ (Sum.inr a:Key)=Sum.inr b:=fun q=>e (Sum.inr.inj q)
  rw [decide_eq_false h,decide_eq_false e]
theorem PN (a:Int) (b:Str):decide ((Sum.inl a:Key)=Sum.inr b)=false:=decide_eq_false (fun q=>nomatch q)
theorem PX (a:Str) (b:Int):decide ((Sum.inr a:Key)=Sum.inl b)=false:=decide_eq_false (fun q=>nomatch q)
def Xx (prog:Program) (w:World):PySem.KeyKind prog w Key where
 is:=UP
 hash:=Ob w
 inj:=fun v a b ha hb=>by
  rcases Xj ha with ⟨i,t,rfl,rfl⟩ | ⟨x,t,rfl,rfl⟩
  ·rcases Xj hb with ⟨j,u,rfl,e⟩ | ⟨y,u,rfl,e⟩
   ·injection e with e1 _;rw [e1]
   ·exact nomatch e
  ·rcases Xj hb with ⟨j,u,rfl,e⟩ | ⟨y,u,rfl,e⟩
   ·exact nomatch e
   ·injection e with e1 _;rw [e1]
 byValue:=fun k v h=>by
  rcases Xj h with ⟨i,t,rfl,rfl⟩ | ⟨x,t,rfl,rfl⟩<;>rfl
 pyHash:=fun hv h=>by
  rcases Xj hv with ⟨i,t,rfl,rfl⟩ | ⟨x,t,rfl,rfl⟩
  ·exact wpAny_pyHash_int h
  ·exact wpAny_pyHash_str h
 eqBool:=fun hu hv h=>by
  rcases Xj hu with ⟨i,t,rfl,rfl⟩ | ⟨x,t,rfl,rfl⟩
  ·rcases Xj hv with ⟨j,u,rfl,rfl⟩ | ⟨y,u,rfl,rfl⟩
   ·rw [PJ] at h;exact wpAny_eqBool_int h
   ·rw [PN] at h;exact SeqAt.EqAt.int_str i t y u _ _ _ _ h
  ·rcases Xj hv with ⟨j,u,rfl,rfl⟩ | ⟨y,u,rfl,rfl⟩
   ·rw [PX] at h;exact SeqAt.EqAt.str_int x t j u _ _ _ _ h
   ·rw [PK] at h;exact wpAny_eqBool_str h
 «strs»:=fun k x t v h=>by
  rcases Xj h with ⟨i,u,rfl,e⟩ | ⟨y,u,rfl,e⟩
  ·exact nomatch e
  ·injection e with e1 _
   subst e1
   cases v<;>rfl
theorem P0 (prog:Program) (w:World) (i:Int) (t:Tok):(Xx prog w).is (.inl i) (.int i t)=true:=Py i t
theorem Ra (prog:Program) (w:World) (x:Str) (t:Tok):(Xx prog w).is (.inr x) (.str x t)=true:=Pz x t
inductive V where
 | non | bl (b:Bool) | int (i:Int) | str (x:Str) | jc (b:Array UInt8) | flt (b:UInt64) | ref (a:Addr) | ty (n:String)
 deriving DecidableEq
def YC:V->Value->Prop
 | .non,u=>u=Value.none
 | .bl b,u=>u=Value.bool b
 | .int i,u=>∃ t,u=Value.int i t
 | .str x,u=>∃ t,u=Value.str x t
 | .jc b,u=>∃ t,u=Value.bytes b t
 | .flt b,u=>∃ t,u=Value.float b t
 | .ref a,u=>u=Value.ref a
 | .ty n,u=>u=Value.type n
abbrev Yu:List V->List Value->Prop:=Paired YC
theorem Yu.length {xs:List V} {us:List Value} (r:Yu xs us):xs.length=us.length:=Paired.length r
theorem Yu.get:∀ {xs:List V} {us:List Value} {i:Nat} {x:V},Yu xs us->xs[i]?=some x->∃ u,us[i]?=some u/\YC x u
 | _,_,_,_,.nil,e=>by simp at e
 | _,_,0,_,.cons r _,e=>by simp at e;subst e;exact ⟨_,rfl,r⟩
 | _,_,i+1,x,.cons _ t,e=>by
  obtain ⟨u,h1,h2⟩:=Yu.get (i:=i) (x:=x) t (by simpa using e);exact ⟨u,by simpa using h1,h2⟩
theorem Yu.set {x:V} {u:Value} (r:YC x u):∀ {xs:List V} {us:List Value} (i:Nat),Yu xs us->Yu (xs.set i x) (us.set i u)
 | _,_,_,.nil => .nil
 | _,_,0,.cons _ t => .cons r t
 | _,_,i+1,.cons q t => .cons q (Yu.set r i t)
theorem Yu.append:∀ {xs ys:List V} {us ws:List Value},Yu xs us->Yu ys ws->Yu (xs++ys) (us++ws)
 | _,_,_,_,.nil,s=>s
 | _,_,_,_,.cons r t,s => .cons r (Yu.append t s)
theorem Yu.take:∀ {xs:List V} {us:List Value} (n:Nat),Yu xs us->Yu (xs.take n) (us.take n)
 | _,_,0,_ => .nil
 | _,_,_+1,.nil => .nil
 | _,_,n+1,.cons r t => .cons r (Yu.take n t)
theorem Yu.drop:∀ {xs:List V} {us:List Value} (n:Nat),Yu xs us->Yu (xs.drop n) (us.drop n)
 | _,_,0,r=>r
 | _,_,_+1,.nil => .nil
 | _,_,n+1,.cons _ t=>Yu.drop n t
def XH:Option V->Option Value->Prop
 | some v,some u=>YC v u
 | none,none=>True
 | _,_=>False
def KV {κ:Type}:List (κ×V)->List (κ×Value)->Prop:=Paired fun (p:κ×V) (q:κ×Value)=>p.1=q.1/\YC p.2 q.2
def kV:Key->V
 | .inl i => .int i
 | .inr x => .str x
inductive HO where
 /-- a list -/
 | lst (xs:List V)
 /-- a tuple (never changes) -/
 | tup (xs:List V)
 /-- a dict whose keys are ints and texts;one whose keys are tuples of ints and texts (the empty one is both) -/
 | dK (kvs:List (Key×V)) | dT (kvs:List (List Key×V))
 /-- a set of ints: its members,its size -/
 | set (S:Int->Bool) (n:Nat)
 /-- an instance of the class at C,its dict at dx,its attributes -/
 | ins (C dx:Addr) (fs:List (Str×V))
 /-- the dict of the instance at x -/
 | own (x:Addr)
 /-- the dict of an exception -/
 | xd (fs:List (Str×V))
 /-- a bound method,f of x -/
 | met (f x:Addr)
 /-- a range object lo,lo+1,.. below hi -/
 | rng (lo hi:Int)
 /-- a thing that is known to the object (the script;a dict while a loop walks it): read,never written while it is so -/
 | gG (o:Obj) (u:HO)
 /-- a code object's table -/
 | jr (ps:Array Value)
 /-- any other thing,by what is true of its one object (a def of one's own: V7 a S n:=HO.ext fun h => ..) -/
 | ext (φ:Heap->Prop)
abbrev Hp:=Addr->Option HO
def upd (H:Hp) (a:Addr) (o:HO):Hp:=fun b=>if b=a then some o else H b
theorem Yf {H:Hp} {a:Addr} {o:HO}:upd H a o a=some o:=by unfold upd;rw [if_pos rfl]
theorem Yq {H:Hp} {a b:Addr} {o:HO} (h:b≠a):upd H a o b=H b:=by unfold upd;rw [if_neg h]
theorem VN {H:Hp} {a:Addr} {o u:HO}:upd (upd H a o) a u=upd H a u:=by
 funext b;unfold upd;split<;>rfl
theorem W6 {H:Hp} {a b:Addr} {o u:HO} (h:H a=some o) (h':H b=some u) (d:o≠u):a≠b:=by
 intro e;subst e;rw [h] at h';exact d (Option.some.inj h')
theorem YF {H:Hp} {a b:Addr} {o:HO} (h:H a=some o) (h':H b=none):a≠b:=by
 intro e;subst e;rw [h] at h';cases h'
section
variable (P:Program) (w:World)
def YS (H:Hp) (h:Heap) (a:Addr):HO->Prop
 | .lst xs=>xs.length<=sizeLine/\∃ (its:List Value) (n:Nat),Yu xs its/\h.get? a=some { cls := .type "list",data := .seq its.toArray n }
 | .tup xs=>xs.length<=sizeLine/\∃ its:List Value,Yu xs its/\IsTup h a its.toArray
 | .dK kvs=>kvs.length<=sizeLine/\(a==sysModules)=false/\∃ vs,KV kvs vs/\h.DictOf (Xx P w) a vs
 | .dT kvs=>kvs.length<=sizeLine/\(a==sysModules)=false/\∃ xs:List (List Key×Addr×Value),
   Paired (fun (p:List Key×V) (q:List Key×Addr×Value)=>p.1=q.1/\H q.2.1=some (.tup (p.1.map kV))/\YC p.2 q.2.2) kvs xs /\
   ∃ o es ep,h.get? a=some o/\o.ExactDict/\o.data = .dict es ep/\es.toList=xs.map (entryOfKey (tupleKind (Xx P w)))/\(xs.map (·.1)).Nodup
 | .set S n=>h.SetOf (intKind P w) a S n
 | .ins C dx fs=>H dx=some (.own a)/\fs.length<=1000/\dx≠a/\h.get? a=some (W.instObj C dx) /\
   ∃ mA,h.Ns1 dx mA/\(∀ f,XH (fs.lookup f) (mA f))/\PySem.Within mA (fs.map (·.1))
 | .own _=>∃ o,h.get? a=some o
 | .xd fs=>∃ mA,h.Ns1 a mA/\∀ f,XH (fs.lookup f) (mA f)
 | .rng lo hi=>∃ t u v,h.get? a=some { cls := .type "range",data := .fields #[.int lo t,.int hi u,.int 1 v] }
 | .gG o u=>h.get? a=some o/\YS H h a u
 | .jr ps=>h.get? a=some { cls := .none,data := .fields ps }
 | .met f x=>h.get? a=some (W.methodObj (.ref f) (.ref x))
 | .ext φ=>φ h/\(∃ o,h.get? a=some o)/\∀ h1 h2:Heap,φ h1->(∀ o,h1.get? a=some o->h2.get? a=some o)->φ h2
def cj (H:Hp) (h:Heap):Prop:=∀ a o,H a=some o->YS P w H h a o
end
section
variable {P:Program} {w:World} {H H':Hp} {h h':Heap} {a:Addr} {o:HO}
theorem YS.lt (x:YS P w H h a o):a<h.objs.size:=by
 cases o with
 | lst xs=>obtain ⟨_,_,_,_,e⟩:=x;exact Heap.lt_size e
 | tup xs=>obtain ⟨_,_,_,p⟩:=x;exact p.lt
 | dK kvs=>obtain ⟨_,_,_,_,o,_,_,e,_⟩:=x;exact Heap.lt_size e
 | dT kvs=>obtain ⟨_,_,_,_,o,_,_,e,_⟩:=x;exact Heap.lt_size e
 | set S n=>obtain ⟨o,_,_,_,e,_⟩:=x;exact Heap.lt_size e
 | ins C dx fs=>obtain ⟨_,_,_,e,_⟩:=x;exact Heap.lt_size e
 | own y=>obtain ⟨_,e⟩:=x;exact Heap.lt_size e
 | xd fs=>obtain ⟨_,⟨_,_,_,e,_⟩,_⟩:=x;exact Heap.lt_size e
 | rng lo hi=>obtain ⟨_,_,_,e⟩:=x;exact Heap.lt_size e
 | gG ob u=>obtain ⟨e,_⟩:=x;exact Heap.lt_size e
 | jr ps=>exact Heap.lt_size (show h.get? a=some _ from x)
 | met f y=>exact Heap.lt_size (show h.get? a=some _ from x)
 | ext φ=>obtain ⟨_,⟨_,e⟩,_⟩:=x;exact Heap.lt_size e
theorem Paired.qy {α β:Type} {F G:α->β->Prop}:∀ {l₁:List α} {l₂:List β},Paired F l₁ l₂->(∀ a b,F a b->G a b)->Paired G l₁ l₂
 | _,_,.nil,_ => .nil
 | _,_,.cons r t,f => .cons (f _ _ r) (Paired.qy t f)
theorem YS.stay (x:YS P w H h a o) (k:∀ b u,(b=a\/H b=some (.own a))->h.get? b=some u->h'.get? b=some u)
  (ho:∀ b,H b=some (.own a)->H' b=some (.own a)) (ht:∀ b xs,H b=some (.tup xs)->H' b=some (.tup xs)):YS P w H' h' a o:=by
 induction o with
 | lst xs=>obtain ⟨z,its,n,r,e⟩:=x;exact ⟨z,its,n,r,k _ _ (.inl rfl) e⟩
 | tup xs=>obtain ⟨z,its,r,ob,e,c⟩:=x;exact ⟨z,its,r,ob,k _ _ (.inl rfl) e,c⟩
 | dK kvs=>obtain ⟨z,y,vs,r,ob,es,ep,e,c⟩:=x;exact ⟨z,y,vs,r,ob,es,ep,k _ _ (.inl rfl) e,c⟩
 | dT kvs =>
  obtain ⟨z,y,xs,r,ob,es,ep,e,c⟩:=x;exact ⟨z,y,xs,Paired.qy r fun p q z=>⟨z.1,ht _ _ z.2.1,z.2.2⟩,ob,es,ep,k _ _ (.inl rfl) e,c⟩
 | set S n=>obtain ⟨ob,es,ep,t,e,c⟩:=x;exact ⟨ob,es,ep,t,k _ _ (.inl rfl) e,c⟩
 | ins C dx fs =>
  obtain ⟨d,z,ne,e,mA,⟨od,es,ep,e2,c⟩,r⟩:=x;exact ⟨ho _ d,z,ne,k _ _ (.inl rfl) e,mA,⟨od,es,ep,k _ _ (.inr d) e2,c⟩,r⟩
 | own y=>obtain ⟨ob,e⟩:=x;exact ⟨ob,k _ _ (.inl rfl) e⟩
 | xd fs=>obtain ⟨mA,⟨od,es,ep,e,c⟩,r⟩:=x;exact ⟨mA,⟨od,es,ep,k _ _ (.inl rfl) e,c⟩,r⟩
 | rng lo hi=>obtain ⟨t,u,v,e⟩:=x;exact ⟨t,u,v,k _ _ (.inl rfl) e⟩
 | gG ob u ih=>obtain ⟨e,q⟩:=x;exact ⟨k _ _ (.inl rfl) e,ih q⟩
 | jr ps =>
  have e:h.get? a=some { cls := .none,data := .fields ps }:=x
  show h'.get? a=some { cls := .none,data := .fields ps }
  exact k a _ (.inl rfl) e
 | met f y =>
  have e:h.get? a=some (W.methodObj (.ref f) (.ref y)):=x
  show h'.get? a=some (W.methodObj (.ref f) (.ref y))
  exact k a _ (.inl rfl) e
 | ext φ=>obtain ⟨p,⟨o,e⟩,st⟩:=x;exact ⟨st _ _ p fun o q=>k _ _ (.inl rfl) q,⟨o,k _ _ (.inl rfl) e⟩,st⟩
theorem cj.lt (x:cj P w H h) (e:H a=some o):a<h.objs.size:=(x a o e).lt
theorem cj.fresh (x:cj P w H h) (e:h.objs.size<=a):H a=none:=by
 cases q:H a with
 | none=>rfl
 | some u=>exact absurd (Nat.lt_of_lt_of_le (x.lt q) e) (Nat.lt_irrefl _)
theorem cj.kept (x:cj P w H h) (k:∀ b u,h.get? b=some u->h'.get? b=some u):cj P w H h':=fun a o e =>
 (x a o e).stay (fun b u _ q=>k b u q) (fun _ q=>q) fun _ _ q=>q
theorem cj.laid (x:cj P w H h) (k:∀ b u,h.get? b=some u->h'.get? b=some u) (hp:h.objs.size<=a) (new:YS P w (upd H a o) h' a o):cj P w (upd H a o) h':=fun b u e=>by
 have hn:=x.fresh hp;by_cases hb:b=a
 ·subst hb;rw [Yf] at e;cases e;exact new
 ·rw [Yq hb] at e
  exact (x b u e).stay (fun c v _ q=>k c v q) (fun c q=>by rw [Yq (YF q hn)];exact q) fun c xs q=>by rw [Yq (YF q hn)];exact q
end
def Rd (H:Hp) (a:Addr) (u:HO):Prop:=H a=some u\/∃ o,H a=some (.gG o u)
theorem Rd.ok {P:Program} {w:World} {H:Hp} {h:Heap} {a:Addr} {u:HO} (r:Rd H a u) (x:cj P w H h):YS P w H h a u:=by
 rcases r with r | ⟨o,r⟩
 ·exact x a u r
 ·obtain ⟨_,q⟩:=x a _ r
  exact q
def oR:Option HO->Prop
 | some (.lst _)=>True
 | some (.dK _)=>True
 | some (.dT _)=>True
 | some (.set _ _)=>True
 | some (.ins _ _ _)=>True
 | some (.ext _)=>True
 | _=>False
section
variable {P:Program} {w:World} {H:Hp} {h h':Heap} {x e:Addr} {o':HO}
theorem cj.write (ok:cj P w H h) (mu:oR (H x)) (he:e=x\/H e=some (.own x)) (k:∀ b u,b≠e->h.get? b=some u->h'.get? b=some u) (heo:∃ u,h'.get? e=some u)
  (new:YS P w (upd H x o') h' x o'):cj P w (upd H x o') h':=fun b u q=>by
 have uE:∀ c y,H c=some (.own y)->c≠x:=fun c y r z=>by subst z;rw [r] at mu;exact mu
 have Oc:∀ c xs,H c=some (.tup xs)->c≠x:=fun c xs r z=>by subst z;rw [r] at mu;exact mu
 by_cases hb:b=x
 ·subst hb;rw [Yf] at q;cases q;exact new
 ·rw [Yq hb] at q
  by_cases hbe:b=e
  ·have q':H b=some (.own x):=by
    rcases he with z | z
    ·exact absurd (hbe.trans z) hb
    ·rw [hbe];exact z
   rw [q] at q';cases q'
   obtain ⟨v,hv⟩:=heo;exact ⟨v,by rw [hbe];exact hv⟩
  ·refine (ok b u q).stay (fun c v hc r=>k c v ?_ r) (fun c r=>by rw [Yq (uE c b r)];exact r) fun c xs r=>by rw [Yq (Oc c xs r)];exact r
   rcases hc with rfl | hc
   ·exact hbe
   ·rintro rfl
    rcases he with z | z
    ·exact uE c b hc z
    ·rw [hc] at z;cases z;exact hb rfl
end
structure Un (fs ex:List Addr) (H H':Hp) (h h':Heap):Prop where
 keep:∀ b o,h.get? b=some o->H b=none->b∉fs->b∉ex->h'.get? b=some o
 slot:∀ b o,h.get? b=some o->H b=none->b∈fs->b∉ex->∃ sl,h'.get? b=some { o with slots:=sl }
 free:∀ b o,h.get? b=some o->H b=none->b∉ex->H' b=none
 there:∀ b o,h.get? b=some o->b∉ex->∃ o',h'.get? b=some o'
 tups:∀ b xs,H b=some (.tup xs)->H' b=some (.tup xs)
 dB:∀ b o u,H b=some (.gG o u)->H' b=some (.gG o u)
 dY:∀ b ps,H b=some (.jr ps)->∃ more,H' b=some (.jr (ps++more))
section
variable {fs fs' ex ex':List Addr} {H H1 H2:Hp} {h h1 h2 h':Heap} {a x e:Addr} {o:HO}
theorem Un.any (u:Un fs ex H H1 h h1) {b:Addr} {ob:Obj} (q:h.get? b=some ob) (n:H b=none) (hx:b∉ex):∃ sl,h1.get? b=some { ob with slots:=sl }:=by
 by_cases hb:b∈fs
 ·exact u.slot b ob q n hb hx
 ·exact ⟨ob.slots,u.keep b ob q n hb hx⟩
theorem Un.kept (k:∀ b u,h.get? b=some u->h'.get? b=some u):Un fs ex H H h h' :=
 ⟨fun b ob q _ _ _=>k b ob q,fun b ob q _ _ _=>⟨ob.slots,k b ob q⟩,fun _ _ _ n _=>n,fun b ob q _=>⟨ob,k b ob q⟩,fun _ _ q=>q,fun _ _ _ q=>q,fun _ ps q=>⟨#[],by rw [q];simp⟩⟩
theorem Un.refl:Un fs ex H H h h:=Un.kept fun _ _ q=>q
theorem Un.laid (k:∀ b u,h.get? b=some u->h'.get? b=some u) (hp:h.objs.size<=a) (hn:H a=none):Un fs ex H (upd H a o) h h' where
 keep:=fun b u q _ _ _=>k b u q
 slot:=fun b u q _ _ _=>⟨u.slots,k b u q⟩
 free:=fun b u q n _=>by rw [Yq (Nat.ne_of_lt (Nat.lt_of_lt_of_le (Heap.lt_size q) hp))];exact n
 there:=fun b u q _=>⟨u,k b u q⟩
 tups:=fun b xs q=>by rw [Yq (YF q hn)];exact q
 dB:=fun b u xs q=>by rw [Yq (YF q hn)];exact q
 dY:=fun b ps q=>⟨#[],by rw [Yq (YF q hn),q];simp⟩
theorem Un.write (mu:oR (H x)) (he:e=x\/H e=some (.own x)) (k:∀ b u,b≠e->h.get? b=some u->h'.get? b=some u) (heo:∃ u,h'.get? e=some u):Un fs ex H (upd H x o) h h':=by
 have hx:∀ b,H b=none->b≠x:=fun b n z=>by subst z;rw [n] at mu;exact mu
 have hb:∀ b,H b=none->b≠e:=fun b n z=>by
  subst z;rcases he with r | r
  ·exact hx b n r
  ·rw [n] at r;cases r
 have hm:∀ b u,H b=some u->¬ oR (some u)->b≠x:=fun b u q nm z=>by subst z;rw [q] at mu;exact nm mu
 refine ⟨fun b u q n _ _=>k b u (hb b n) q,fun b u q n _ _=>⟨u.slots,k b u (hb b n) q⟩,fun b u q n _=>by rw [Yq (hx b n)];exact n,fun b u q _=>?_,
  fun b xs q=>by rw [Yq (hm b _ q fun z=>z)];exact q,fun b u xs q=>by rw [Yq (hm b _ q fun z=>z)];exact q,fun b ps q=>⟨#[],by rw [Yq (hm b _ q fun z=>z),q];simp⟩⟩
 by_cases hbe:b=e
 ·subst hbe;exact heo
 ·exact ⟨u,k b u hbe q⟩
end
def rB (h:Heap) (H:Hp):List Addr:=(List.range h.objs.size).filter fun a=>(H a).isSome
def VY (h:Heap) (H:Hp):Heap:=W.hideAll h (rB h H)
theorem Rb (h:Heap) (H:Hp):(VY h H).objs.size=h.objs.size:=W.hideAll_size _ _
theorem Rc {h:Heap} {H:Hp} {b:Addr} {o:Obj} (e:h.get? b=some o) (n:H b=none):(VY h H).get? b=some o :=
 W.hideAll_get _ e fun hm=>by
  have q:(H b).isSome=true:=(List.mem_filter.mp hm).2;rw [n] at q;simp at q
theorem Rf {h:Heap} {H:Hp} {b:Addr} {o:Obj} (e:(VY h H).get? b=some o):h.get? b=some o/\H b=none:=by
 have e':h.get? b=some o:=W.of_hideAll (rB h H) e;refine ⟨e',?_⟩
 cases q:H b with
 | none=>rfl
 | some x =>
  have hm:b∈rB h H:=List.mem_filter.mpr ⟨List.mem_range.mpr (Heap.lt_size e'),by simp [q]⟩;have z:(VY h H).get? b=none:=W.hideAll_none (rB h H) hm;rw [z] at e;cases e
def Rh (g h:Heap) (L:Addr):List (Addr×Obj):=(List.range h.objs.size).filterMap fun a=>if a=L\/(g.get? a).isSome=true then none else (h.get? a).map fun o=>(a,o)
def Y7 (g h:Heap) (L d:Addr):List (Addr×Obj):=(Rh g h L).filter fun p=>decide (p.1≠d)
structure Mod (K:W.Frag) (mg:Str->Option Value) (base:Heap):Prop where
 j6:K.In base
 glob:base.Ns mainGlobals mg
 blt:∃ mb,base.Ns builtinsNs mb/\∀ x:Str,x≠"__name__"->mb x=bootBuiltins x
 nolimit:base.NoLimit
structure Cx where
 prog:Program
 w:World
 K:W.Frag
 mg:Str->Option Value
 base:Heap
 A:Around
 N:List Str
 s₀:Shared
 H₀:Hp
 env:Env
 outer:List Env
 stack:List Env
 ex:List Addr
 fn:Str->Bool
 calm:Bool
 pn:List (Addr×Obj)
 xe:Value->Shared->Prop
def frs (l:List Env):List Addr:=l.filterMap (·.frame)
abbrev Cx.fs (X:Cx):List Addr:=frs X.outer
def j7 (sc:Scope) (x:Str):Prop:=sc.names.lookup x=some .local\/sc.names.lookup x=some .cell\/sc.names.lookup x=some .free
def Loc (sc:Scope) (x:Str):Prop:=sc.names.lookup x=some .local\/sc.names.lookup x=some .cell
def Look (env:Env) (h:Heap) (m:Str->Option Value) (x:Str) (u:Value):Prop :=
 (env.kindOf x=some .local/\m x=some u)\/((env.kindOf x=some .cell\/env.kindOf x=some .free)/\∃ c,env.cells.lookup x=some c/\h.IsCell c (some u))
structure Cx.Ok (X:Cx):Prop where
 mod:Mod X.K X.mg X.base
 kind:X.env.scope.kind = .function
 glob:X.env.globals=mainGlobals
 blt:X.env.builtins=builtinsNs
 above:X.s₀.heap.objs.size<=X.env.locals
 inj:∀ x y c,X.env.cells.lookup x=some c->X.env.cells.lookup y=some c->x=y
 has:∀ x,(X.env.kindOf x=some .cell\/X.env.kindOf x=some .free)->∃ c,X.env.cells.lookup x=some c
 cab:∀ x c,X.fn x=true->X.env.cells.lookup x=some c->X.s₀.heap.objs.size<=c
 hd:X.calm=true->X.A.handled=none
 frames:X.A.frames=some X.stack
 stk:X.stack=X.outer\/(X.stack=X.env::X.outer/\X.env.frame=some X.env.locals)
 rD:∀ b∈X.ex,b≠X.env.locals/\∀ x c,X.env.cells.lookup x=some c->c≠b
 bs:∀ b o,X.base.get? b=some o->X.s₀.heap.get? b=some o/\X.H₀ b=none
 jf:X.base.objs.size<=X.s₀.heap.objs.size
 jz:∀ b o,X.base.get? b=some o->b∉X.ex
 jU:∀ b∈X.ex,b∉X.fs
 fB:X.s₀.heap.FunFrames X.base X.outer
 jF:∀ b∈X.fs,X.H₀ b=none
structure Inv (X:Cx) (pins:List (Addr×Obj)) (σ:List (Option V)) (H:Hp) (s:Shared):Prop where
 ok:X.Ok
 os:s.os=X.s₀.os
 bare:AllBare s.gens
 base:Un X.fs X.ex X.H₀ H X.s₀.heap s.heap
 loc:∃ m,s.heap.Ns X.env.locals m/\∀ (i:Nat) (x:Str) (v:V),X.N[i]?=some x->σ[i]?=some (some v)->j7 X.env.scope x->∃ u,YC v u/\Look X.env s.heap m x u
 cell:∀ x c,X.env.cells.lookup x=some c->∃ v,s.heap.IsCell c v
 free:H X.env.locals=none
 fP:∀ x c,X.env.cells.lookup x=some c->H c=none
 pin:∀ p∈X.pn++pins,s.heap.get? p.1=some p.2/\H p.1=none/\p.1≠X.env.locals/\p.1∉X.fs/\∀ v,p.2.data ≠ .cell v
 hok:cj X.prog X.w H s.heap
 len:σ.length=X.N.length
section
variable {X:Cx} {pins:List (Addr×Obj)} {σ:List (Option V)} {H H':Hp} {s:Shared} {h':Heap}
theorem Cx.Ok.Od (ok:X.Ok) {b:Addr} {o:Obj} (e:X.base.get? b=some o):b∉X.fs:=fun hb=>by
 have:=(ok.fB.mem hb).1;rw [e] at this;cases this
theorem Inv.bs (I:Inv X pins σ H s):∀ b o,X.base.get? b=some o->s.heap.get? b=some o/\H b=none:=fun b o e =>
 ⟨I.base.keep b o (I.ok.bs b o e).1 (I.ok.bs b o e).2 (I.ok.Od e) (I.ok.jz b o e),I.base.free b o (I.ok.bs b o e).1 (I.ok.bs b o e).2 (I.ok.jz b o e)⟩
theorem Inv.bk (I:Inv X pins σ H s):∀ b o,X.base.get? b=some o->s.heap.get? b=some o:=fun b o e=>(I.bs b o e).1
theorem Inv.mod (I:Inv X pins σ H s):Mod X.K X.mg X.base:=I.ok.mod
theorem Inv.bF (I:Inv X pins σ H s):X.K.In s.heap:=I.ok.mod.j6.keeps I.bk
theorem Inv.lt (I:Inv X pins σ H s):X.env.locals<s.heap.objs.size:=let ⟨_,hn,_⟩:=I.loc;hn.lt
theorem Inv.sz (I:Inv X pins σ H s):X.s₀.heap.objs.size<=s.heap.objs.size:=Nat.le_trans I.ok.above (Nat.le_of_lt I.lt)
theorem Inv.Oe (I:Inv X pins σ H s) {a:Addr} (h:s.heap.objs.size<=a):a∉X.fs:=fun hb=>by
 obtain ⟨_,o,ho,_⟩:=I.ok.fB.mem hb;exact absurd (Nat.lt_of_lt_of_le (Heap.lt_size ho) (Nat.le_trans I.sz h)) (Nat.lt_irrefl _)
theorem Inv.jg (I:Inv X pins σ H s):∀ x c,X.env.cells.lookup x=some c->c≠X.env.locals:=fun x c e z=>by
 obtain ⟨v,o,ho,hd⟩:=I.cell x c e;obtain ⟨m,⟨o',es,ep,ho',hd',_⟩,_⟩:=I.loc;rw [z,ho'] at ho;cases ho;rw [hd'] at hd;cases hd
theorem Inv.fB (I:Inv X pins σ H s):s.heap.FunFrames X.base X.outer:=by
 have all:∀ (l:List Env),(∀ b∈frs l,b∈X.fs)->X.s₀.heap.FunFrames X.base l->s.heap.FunFrames X.base l:=by
  intro l
  induction l with
  | nil=>intro _ _;trivial
  | cons env r ih =>
   intro hs hl;obtain ⟨hk,⟨L,o,hf,hn,ho,hd⟩,hr⟩:=hl;have hL:L∈X.fs:=hs L (by unfold frs;rw [List.filterMap_cons,hf];exact List.mem_cons_self);obtain ⟨sl,e⟩:=I.base.slot L o ho (I.ok.jF L hL) hL fun z=>I.ok.jU L z hL
   exact ⟨hk,⟨L,_,hf,hn,e,hd⟩,ih (fun b hb=>hs b (by unfold frs;rw [List.filterMap_cons,hf];exact List.mem_cons_of_mem _ hb)) hr⟩
 exact all X.outer (fun _ hb=>hb) I.ok.fB
theorem Inv.stack (I:Inv X pins σ H s):s.heap.FunFrames X.base X.stack:=by
 rcases I.ok.stk with e | ⟨e,hf⟩
 ·rw [e];exact I.fB
 ·rw [e]
  obtain ⟨m,hn,_⟩:=I.loc;refine .cons (by rw [I.ok.kind];decide) hf hn ?_ I.fB;exact Heap.get?_none_of_le (Nat.le_trans I.ok.jf I.ok.above)
theorem Inv.jh (I:Inv X pins σ H s):∀ b∈frs X.stack,b∈X.env.locals::X.fs:=fun b hb=>by
 rcases I.ok.stk with e | ⟨e,hf⟩
 ·rw [e] at hb;exact List.mem_cons_of_mem _ hb
 ·rw [e] at hb
  unfold frs at hb;rw [List.filterMap_cons,hf] at hb
  exact hb
theorem Inv.gY (I:Inv X pins σ H s):∀ b∈frs X.stack,H b=none:=fun b hb=>by
 rcases List.mem_cons.mp (I.jh b hb) with e | hb
 ·rw [e];exact I.free
 ·obtain ⟨_,o,ho,_⟩:=I.ok.fB.mem hb
  exact I.base.free b o ho (I.ok.jF b hb) fun z=>I.ok.jU b z hb
theorem Inv.step {g':Array GenState} {t':Nat} {d':Drawn} {ch:List Addr} (I:Inv X pins σ H s)
  (hch:∀ b∈ch,(b∈X.ex\/X.s₀.heap.objs.size<=b)/\b≠X.env.locals/\(∀ x c,X.env.cells.lookup x=some c->c≠b)/\∀ p∈X.pn++pins,p.1≠b)
  (keep:∀ b o,b≠X.env.locals->b∉X.fs->b∉ch->s.heap.get? b=some o->H b=none->h'.get? b=some o)
  (slot:∀ b o,b≠X.env.locals->b∈X.fs->b∉ch->s.heap.get? b=some o->H b=none->∃ sl,h'.get? b=some { o with slots:=sl }) (free:∀ b o,b∉ch->s.heap.get? b=some o->H b=none->H' b=none)
  (there:∀ b o,b∉ch->s.heap.get? b=some o->∃ o',h'.get? b=some o')
  (tups:∀ b xs,H b=some (.tup xs)->H' b=some (.tup xs)) (dB:∀ b o u,H b=some (.gG o u)->H' b=some (.gG o u)) (dY:∀ b ps,H b=some (.jr ps)->∃ more,H' b=some (.jr (ps++more)))
  (ns:∀ m,s.heap.Ns X.env.locals m->h'.Ns X.env.locals m) (hok:cj X.prog X.w H' h') (hg:AllBare g') :
  Inv X pins σ H' { s with heap:=h',gens:=g',drawn:=d',toks:=t' }:=by
 have Dq:∀ b o,X.s₀.heap.get? b=some o->b≠X.env.locals:=fun b o e=>Nat.ne_of_lt (Nat.lt_of_lt_of_le (Heap.lt_size e) I.ok.above)
 have rE:∀ b o,X.s₀.heap.get? b=some o->b∉X.ex->b∉ch:=fun b o e hx hb=>by
  rcases (hch b hb).1 with z | z
  ·exact hx z
  ·exact absurd (Nat.lt_of_lt_of_le (Heap.lt_size e) z) (Nat.lt_irrefl _)
 have cellK:∀ x c,X.env.cells.lookup x=some c->∀ v,s.heap.IsCell c v->h'.IsCell c v:=fun x c e v ⟨o,ho,hd⟩=>by
  have oU:c∉ch:=fun z=>(hch c z).2.2.1 x c e rfl
  by_cases hc:c∈X.fs
  ·obtain ⟨sl,q⟩:=slot c o (I.jg x c e) hc oU ho (I.fP x c e)
   exact ⟨_,q,hd⟩
  ·exact ⟨o,keep c o (I.jg x c e) hc oU ho (I.fP x c e),hd⟩
 refine ⟨I.ok,I.os,hg,⟨fun b o e n hb hx=>?_,fun b o e n hb hx=>?_,fun b o e n hx=>?_,fun b o e hx=>?_,fun b xs e=>tups b xs (I.base.tups b xs e),fun b o xs e=>dB b o xs (I.base.dB b o xs e),fun b ps e=>?_⟩,?_,fun x c e=>?_,?_,fun x c e=>?_,fun p hp=>?_,hok,I.len⟩
 ·exact keep b o (Dq b o e) hb (rE b o e hx) (I.base.keep b o e n hb hx) (I.base.free b o e n hx)
 ·obtain ⟨sl,e1⟩:=I.base.slot b o e n hb hx
  obtain ⟨sl',e2⟩:=slot b _ (Dq b o e) hb (rE b o e hx) e1 (I.base.free b o e n hx);exact ⟨sl',e2⟩
 ·obtain ⟨o',e1⟩:=I.base.there b o e hx
  exact free b o' (rE b o e hx) e1 (I.base.free b o e n hx)
 ·obtain ⟨o',e1⟩:=I.base.there b o e hx
  exact there b o' (rE b o e hx) e1
 ·obtain ⟨m1,e1⟩:=I.base.dY b ps e
  obtain ⟨m2,e2⟩:=dY b _ e1;exact ⟨m1++m2,by rw [e2,Array.append_assoc]⟩
 ·obtain ⟨m,hn,hl⟩:=I.loc
  refine ⟨m,ns m hn,fun i x v e1 e2 e3=>?_⟩;obtain ⟨u,r,l⟩:=hl i x v e1 e2 e3;refine ⟨u,r,?_⟩;rcases l with l | ⟨k,c,e,z⟩
  ·exact .inl l
  ·exact .inr ⟨k,c,e,cellK x c e _ z⟩
 ·obtain ⟨v,z⟩:=I.cell x c e
  exact ⟨v,cellK x c e v z⟩
 ·obtain ⟨m,⟨o,_,_,ho,_⟩,_⟩:=I.loc
  exact free _ o (fun z=>(hch _ z).2.1 rfl) ho I.free
 ·obtain ⟨v,o,ho,hd⟩:=I.cell x c e
  exact free c o (fun z=>(hch c z).2.2.1 x c e rfl) ho (I.fP x c e)
 ·obtain ⟨e,n,ne,nf,d⟩:=I.pin p hp
  have oU:p.1∉ch:=fun z=>(hch p.1 z).2.2.2 p hp rfl
  exact ⟨keep p.1 p.2 ne nf oU e n,free p.1 p.2 oU e n,ne,nf,d⟩
theorem Inv.un {t':Nat} (I:Inv X pins σ H s) (u:Un X.fs [] H H' s.heap h') (hok:cj X.prog X.w H' h'):Inv X pins σ H' { s with heap:=h',toks:=t' }:=by
 obtain ⟨m,⟨o,es,ep,ho,r⟩,_⟩:=id I.loc;obtain ⟨sl,hL⟩:=u.any ho I.free (by simp);exact I.step (g':=s.gens) (d':=s.drawn) (ch:=[]) (fun _ z=>nomatch z) (fun b o _ hb _ e n=>u.keep b o e n hb (by simp)) (fun b o _ hb _ e n=>u.slot b o e n hb (by simp)) (fun b o _ e n=>u.free b o e n (by simp)) (fun b o _ e=>u.there b o e (by simp)) u.tups u.dB u.dY (fun m' hm=>by
  obtain ⟨o',es',ep',ho',r'⟩:=hm;rw [ho] at ho';cases ho'
  exact ⟨_,es',ep',hL,r'⟩) hok I.bare
theorem Inv.call {g':Array GenState} {t':Nat} {d':Drawn} {ch:List Addr} (I:Inv X pins σ H s) (u:Un (frs X.stack) ch H H' s.heap h') (hok:cj X.prog X.w H' h') (hg:AllBare g')
  (hch:∀ b∈ch,(b∈X.ex\/X.s₀.heap.objs.size<=b)/\b≠X.env.locals/\(∀ x c,X.env.cells.lookup x=some c->c≠b)/\∀ p∈X.pn++pins,p.1≠b) :
  Inv X pins σ H' { s with heap:=h',gens:=g',drawn:=d',toks:=t' }:=by
 obtain ⟨m,⟨o,es,ep,ho,r⟩,_⟩:=id I.loc;obtain ⟨sl,hL⟩:=u.any ho I.free fun z=>(hch _ z).2.1 rfl
 exact I.step (ch:=ch) hch (fun b o hL hb hc e n=>u.keep b o e n (fun z=>(List.mem_cons.mp (I.jh b z)).elim hL hb) hc) (fun b o _ _ hc e n=>u.any e n hc) (fun b o hc e n=>u.free b o e n hc) (fun b o hc e=>u.there b o e hc) u.tups u.dB u.dY (fun m' hm=>by
  obtain ⟨o',es',ep',ho',r'⟩:=hm;rw [ho] at ho';cases ho'
  exact ⟨_,es',ep',hL,r'⟩) hok hg
theorem Inv.turned {t':Nat} {it:Addr} (I:Inv X pins σ H s) (k:∀ b o,b≠it->s.heap.get? b=some o->h'.get? b=some o) (hn:H it=none) (hL:it≠X.env.locals)
  (h1:it∈X.ex\/X.s₀.heap.objs.size<=it) (h2:∀ x c,X.env.cells.lookup x=some c->c≠it) (h3:∀ p∈X.pn++pins,p.1≠it):Inv X pins σ H { s with heap:=h',toks:=t' }:=by
 have oV:∀ b u,H b=some u->b≠it:=fun b u e z=>by rw [z,hn] at e;cases e
 refine I.step (g':=s.gens) (d':=s.drawn) (ch:=[it]) (fun b hb=>?_) (fun b o _ _ hc e _=>k b o (fun z=>hc (by simp [z])) e) (fun b o _ _ hc e _=>⟨o.slots,k b o (fun z=>hc (by simp [z])) e⟩) (fun _ _ _ _ n=>n)
  (fun b o hc e=>⟨o,k b o (fun z=>hc (by simp [z])) e⟩) (fun _ _ e=>e) (fun _ _ _ e=>e) (fun b ps e=>⟨#[],by rw [e];simp⟩) (fun m hm=>?_) (fun b u e=>?_) I.bare
 ·have e:b=it:=by simpa using hb
  subst e;exact ⟨h1,hL,h2,h3⟩
 ·obtain ⟨o,es,ep,ho,r⟩:=hm
  exact ⟨o,es,ep,k _ o (Ne.symm hL) ho,r⟩
 ·refine (I.hok b u e).stay (fun c v hc q=>k c v ?_ q) (fun _ q=>q) fun _ _ q=>q
  rcases hc with z | z
  ·rw [z];exact oV b u e
  ·exact oV c _ z
theorem Inv.tok (I:Inv X pins σ H s) (t:Nat):Inv X pins σ H { s with toks:=t }:=I.un (h':=s.heap) (t':=t) Un.refl I.hok
theorem Inv.kept {t':Nat} (I:Inv X pins σ H s) (k:∀ b u,s.heap.get? b=some u->h'.get? b=some u):Inv X pins σ H { s with heap:=h',toks:=t' }:=I.un (Un.kept k) (I.hok.kept k)
theorem Inv.laid {a:Addr} {o:HO} {t':Nat} (I:Inv X pins σ H s) (k:∀ b u,s.heap.get? b=some u->h'.get? b=some u) (hp:s.heap.objs.size<=a) (new:YS X.prog X.w (upd H a o) h' a o) :
  Inv X pins σ (upd H a o) { s with heap:=h',toks:=t' }:=I.un (Un.laid k hp (I.hok.fresh hp)) (I.hok.laid k hp new)
theorem Inv.write {x e:Addr} {o:HO} {t':Nat} (I:Inv X pins σ H s) (mu:oR (H x)) (he:e=x\/H e=some (.own x)) (k:∀ b u,b≠e->s.heap.get? b=some u->h'.get? b=some u) (heo:∃ u,h'.get? e=some u)
  (new:YS X.prog X.w (upd H x o) h' x o):Inv X pins σ (upd H x o) { s with heap:=h',toks:=t' }:=I.un (Un.write mu he k heo) (I.hok.write mu he k heo new)
theorem Inv.m6 {fX:List (Addr×Obj)} (I:Inv X pins σ H s) (h:∀ p∈fX,s.heap.get? p.1=some p.2/\H p.1=none/\p.1≠X.env.locals/\p.1∉X.fs/\∀ v,p.2.data ≠ .cell v):Inv X fX σ H s :=
 ⟨I.ok,I.os,I.bare,I.base,I.loc,I.cell,I.free,I.fP,fun p hp=>(List.mem_append.mp hp).elim (fun z=>I.pin p (List.mem_append_left _ z)) (h p),I.hok,I.len⟩
theorem Qi {N:List Str} (hN:N.Nodup) {i j:Nat} {x:Str} (a:N[i]?=some x) (b:N[j]?=some x):i=j:=by
 obtain ⟨h1,e1⟩:=List.getElem?_eq_some_iff.mp a;obtain ⟨h2,e2⟩:=List.getElem?_eq_some_iff.mp b;exact (List.getElem_inj hN).mp (e1.trans e2.symm)
theorem Ri {M:Model} {A:Around} {E:Value->Shared->Prop} {i:Nat} {x:Str} {v:V} {u:Value} {Q:Unit->Shared->Prop} (I:Inv X pins σ H s) (hN:X.N.Nodup) (hi:X.N[i]?=some x) (hx:Loc X.env.scope x) (r:YC v u)
  (h:∀ s',Inv X pins (σ.set i (some v)) H s'->(∃ a,Heap.SameBut a s.heap s'.heap/\(a=X.env.locals\/X.env.cells.lookup x=some a))->Q () s') (hf:X.fn x=true\/X.env.scope.names.lookup x=some .local:=by first | exact .inl rfl | exact .inr rfl | assumption):wpAny M A (storeName X.env x u) Q E s:=by
 obtain ⟨m,hn,hl⟩:=id I.loc;have hcls:(X.env.scope.kind == .class||(X.env.scope.kind == .module&&X.env.locals != X.env.globals))=false:=by rw [I.ok.kind];rfl
 have uF:i<σ.length:=by rw [I.len];exact (List.getElem?_eq_some_iff.mp hi).1
 have jg:=I.jg;have tracked:∀ {a:Addr} {h':Heap},(∃ o,s.heap.get? a=some o/\H a=none)->Heap.SameBut a s.heap h'->cj X.prog X.w H h':=fun {a h'} ha hs b ob e=>by
  obtain ⟨_,_,hfree⟩:=ha;refine (I.hok b ob e).stay (fun c w' hc q=>(hs.2 c ?_).trans q) (fun _ q=>q) fun _ _ q=>q
  rintro rfl;rcases hc with rfl | hc
  ·rw [hfree] at e;cases e
  ·rw [hfree] at hc;cases hc
 rcases hx with hk | hk
 ·refine wpAny_storeName_local hk hn (fun h' hn' hs=>?_) hcls
  obtain ⟨oL,_,_,hoL,_⟩:=id hn;refine h _ ⟨I.ok,I.os,I.bare,⟨fun b o e n hb hx=>?_,fun b o e n hb hx=>?_,I.base.free,fun b o e hx=>?_,I.base.tups,I.base.dB,I.base.dY⟩,⟨_,hn',fun j y v' e1 e2 e3=>?_⟩,fun y c e=>?_,I.free,I.fP,fun p hp=>?_,tracked ⟨oL,hoL,I.free⟩ hs,by simpa using I.len⟩ ⟨_,hs,.inl rfl⟩
  ·exact (hs.2 b (Nat.ne_of_lt (Nat.lt_of_lt_of_le (Heap.lt_size e) I.ok.above))).trans (I.base.keep b o e n hb hx)
  ·obtain ⟨sl,e1⟩:=I.base.slot b o e n hb hx
   exact ⟨sl,(hs.2 b (Nat.ne_of_lt (Nat.lt_of_lt_of_le (Heap.lt_size e) I.ok.above))).trans e1⟩
  ·obtain ⟨o',e1⟩:=I.base.there b o e hx
   exact ⟨o',(hs.2 b (Nat.ne_of_lt (Nat.lt_of_lt_of_le (Heap.lt_size e) I.ok.above))).trans e1⟩
  ·by_cases hj:j=i
   ·subst hj
    rw [hi] at e1;cases e1
    rw [List.getElem?_set_self uF] at e2
    cases e2
    exact ⟨u,r,.inl ⟨hk,by simp⟩⟩
   ·rw [List.getElem?_set_ne (Ne.symm hj)] at e2
    obtain ⟨u',r',q⟩:=hl j y v' e1 e2 e3;refine ⟨u',r',?_⟩;rcases q with ⟨k,e⟩ | ⟨k,c,e,z⟩
    ·refine .inl ⟨k,?_⟩
     have:y≠x:=fun e=>hj (Qi hN e1 (e▸hi))
     simp [this,e]
    ·exact .inr ⟨k,c,e,z.sameBut hs (jg y c e)⟩
  ·obtain ⟨w',z⟩:=I.cell y c e
   exact ⟨w',z.sameBut hs (jg y c e)⟩
  ·obtain ⟨e,n,ne,nf,d⟩:=I.pin p hp
   exact ⟨(hs.2 p.1 ne).trans e,n,ne,nf,d⟩
 ·have hfn:X.fn x=true:=by
   rcases hf with z | z
   ·exact z
   ·rw [z] at hk;cases hk
  obtain ⟨c,hc⟩:=I.ok.has x (.inl hk);obtain ⟨w',z⟩:=I.cell x c hc;refine wpAny_storeName_cell I.ok.kind hk hc z (fun h' hc' hs=>?_);obtain ⟨oc,hoc,Og⟩:=id z;refine h { s with heap:=h' } ⟨I.ok,I.os,I.bare,⟨fun b o e n hb hx=>?_,fun b o e n hb hx=>?_,I.base.free,fun b o e hx=>?_,I.base.tups,I.base.dB,I.base.dY⟩,⟨m,hn.sameBut hs (Ne.symm (jg x c hc)),fun j y v' e1 e2 e3=>?_⟩,fun y c' e=>?_,I.free,I.fP,fun p hp=>?_,tracked ⟨oc,hoc,I.fP x c hc⟩ hs,by simpa using I.len⟩ ⟨c,hs,.inr hc⟩
  ·exact (hs.2 b (Nat.ne_of_lt (Nat.lt_of_lt_of_le (Heap.lt_size e) (I.ok.cab x c hfn hc)))).trans (I.base.keep b o e n hb hx)
  ·obtain ⟨sl,e1⟩:=I.base.slot b o e n hb hx
   exact ⟨sl,(hs.2 b (Nat.ne_of_lt (Nat.lt_of_lt_of_le (Heap.lt_size e) (I.ok.cab x c hfn hc)))).trans e1⟩
  ·obtain ⟨o',e1⟩:=I.base.there b o e hx
   exact ⟨o',(hs.2 b (Nat.ne_of_lt (Nat.lt_of_lt_of_le (Heap.lt_size e) (I.ok.cab x c hfn hc)))).trans e1⟩
  ·by_cases hj:j=i
   ·subst hj
    rw [hi] at e1;cases e1
    rw [List.getElem?_set_self uF] at e2
    cases e2
    exact ⟨u,r,.inr ⟨.inl hk,c,hc,hc'⟩⟩
   ·rw [List.getElem?_set_ne (Ne.symm hj)] at e2
    obtain ⟨u',r',q⟩:=hl j y v' e1 e2 e3;refine ⟨u',r',?_⟩;rcases q with q | ⟨k,c',e,z'⟩
    ·exact .inl q
    ·refine .inr ⟨k,c',e,z'.sameBut hs ?_⟩
     rintro rfl;exact hj (Qi hN e1 (I.ok.inj _ _ _ e hc▸hi))
  ·by_cases hcc:c'=c
   ·subst hcc;exact ⟨_,hc'⟩
   ·obtain ⟨w2,z2⟩:=I.cell y c' e
    exact ⟨w2,z2.sameBut hs hcc⟩
  ·obtain ⟨e,n,ne,nf,d⟩:=I.pin p hp
   refine ⟨(hs.2 p.1 ?_).trans e,n,ne,nf,d⟩;intro q;rw [q,hoc] at e
   have q':oc=p.2:=Option.some.inj e;exact d w' (by rw [<- q'];exact Og)
theorem Vj {M:Model} {A:Around} {E:Value->Shared->Prop} {i:Nat} {x:Str} {v:V} {u:Value} {Q:Unit->Shared->Prop} (I:Inv X pins σ H s) (hN:X.N.Nodup) (hi:X.N[i]?=some x) (hx:Loc X.env.scope x) (r:YC v u)
  (h:∀ s',Inv X pins (σ.set i (some v)) H s'->Q () s') (hf:X.fn x=true\/X.env.scope.names.lookup x=some .local:=by first | exact .inl rfl | exact .inr rfl | assumption):wpAny M A (storeName X.env x u) Q E s :=
 Ri I hN hi hx r (fun s' I' _=>h s' I') hf
theorem Inv.call' {s':Shared} {ch:List Addr} (I:Inv X pins σ H s) (ho:s'.os=s.os) (u:Un (frs X.stack) ch H H' s.heap s'.heap) (hok:cj X.prog X.w H' s'.heap) (hg:AllBare s'.gens)
  (hch:∀ b∈ch,(b∈X.ex\/X.s₀.heap.objs.size<=b)/\b≠X.env.locals/\(∀ x c,X.env.cells.lookup x=some c->c≠b)/\∀ p∈X.pn++pins,p.1≠b):Inv X pins σ H' s':=by
 obtain ⟨h',g',d',t',o'⟩:=s';have e:o'=s.os:=ho;subst e;exact I.call (g':=g') (t':=t') (d':=d') u hok hg hch
end
abbrev XK:=Value->Option Addr->Hp->Prop
abbrev St:=List (Option V)
abbrev VK:=V->Hp->Prop
abbrev TE:=St->Hp->VK->Prop
abbrev TT:=St->Hp->(Bool->Hp->Prop)->Prop
abbrev TA:=St->Hp->(List V->Hp->Prop)->Prop
structure Ends where
 nx:St->Hp->Prop
 rt:VK
 bk:St->Hp->Prop:=fun _ _=>False
 ct:St->Hp->Prop:=fun _ _=>False
abbrev TS:=Ends->St->Hp->Prop
def EP (X:Cx) (pins:List (Addr×Obj)) (σ:St) (Q:VK) (u:Value) (s':Shared):Prop:=∃ v H',Inv X pins σ H' s'/\YC v u/\Q v H'
def TP (X:Cx) (pins:List (Addr×Obj)) (σ:St) (Q:Bool->Hp->Prop) (b:Bool) (s':Shared):Prop:=∃ H',Inv X pins σ H' s'/\Q b H'
def AP (X:Cx) (pins:List (Addr×Obj)) (σ:St) (Q:List V->Hp->Prop) (us:List Value) (s':Shared):Prop:=∃ vs H',Inv X pins σ H' s'/\Yu vs us/\Q vs H'
def SP (X:Cx) (pins:List (Addr×Obj)) (D:Ends) (f:Flow) (s':Shared):Prop :=
 match f with
 | .next=>∃ σ' H',Inv X pins σ' H' s'/\D.nx σ' H'
 | .brk=>∃ σ' H',Inv X pins σ' H' s'/\D.bk σ' H'
 | .cont=>∃ σ' H',Inv X pins σ' H' s'/\D.ct σ' H'
 | .ret u=>∃ v σ' H',Inv X pins σ' H' s'/\YC v u/\D.rt v H'
def PE (X:Cx) (e:Expr) (t:TE):Prop :=
 ∀ (pins:List (Addr×Obj)) (s:Shared) (σ:St) (H:Hp) (Q:VK),Inv X pins σ H s->t σ H Q->wpAny (model X.prog X.w) X.A (eval e X.env) (EP X pins σ Q) X.xe s
def PT (X:Cx) (e:Expr) (t:TT):Prop :=
 ∀ (pins:List (Addr×Obj)) (s:Shared) (σ:St) (H:Hp) (Q:Bool->Hp->Prop),Inv X pins σ H s->t σ H Q->wpAny (model X.prog X.w) X.A (isTrue e X.env (eval e X.env)) (TP X pins σ Q) X.xe s
def PW (X:Cx) (e:Expr) (t:TT):Prop :=
 ∀ (whole:Sem Value) (pins:List (Addr×Obj)) (s:Shared) (σ:St) (H:Hp) (Q:Bool->Hp->Prop),Inv X pins σ H s->t σ H Q->wpAny (model X.prog X.w) X.A (isTrue e X.env whole) (TP X pins σ Q) X.xe s
theorem PW.pt {X:Cx} {e:Expr} {t:TT} (h:PW X e t):PT X e t:=h _
def PA (X:Cx) (es:List Expr) (t:TA):Prop :=
 ∀ (pos:Pos) (pins:List (Addr×Obj)) (s:Shared) (σ:St) (H:Hp) (Q:List V->Hp->Prop),Inv X pins σ H s->t σ H Q->wpAny (model X.prog X.w) X.A (spliced (backTo pos (starEach es X.env))) (AP X pins σ Q) X.xe s
def PS (X:Cx) (st:Stmt) (t:TS):Prop :=
 ∀ (pins:List (Addr×Obj)) (s:Shared) (σ:St) (H:Hp) (D:Ends),Inv X pins σ H s->t D σ H->wpAny (model X.prog X.w) X.A (exec st X.env) (SP X pins D) X.xe s
def gn (X:Cx) (st:List Stmt) (t:TS):Prop :=
 ∀ (pins:List (Addr×Obj)) (s:Shared) (σ:St) (H:Hp) (D:Ends),Inv X pins σ H s->t D σ H->wpAny (model X.prog X.w) X.A (execs st X.env) (SP X pins D) X.xe s
theorem aB {α:Type} {t:Sem α} {Q Q':α->Shared->Prop} {M:Model} {A:Around} {E:Value->Shared->Prop} {s:Shared} (h:wpAny M A t Q E s) (hQ:∀ a s,Q a s->Q' a s):wpAny M A t Q' E s:=wpAny_mono h hQ fun _ _ x=>x
section
variable {X:Cx}
def VH (i:Nat):TE:=fun σ H Q=>∃ v,σ[i]?=some (some v)/\Q v H
def tC (v:V):TE:=fun _ H Q=>Q v H
theorem Rj {i:Nat} {x:Str} {pos:Pos} (hN:X.N[i]?=some x) (hv:j7 X.env.scope x) (hd:(x==("__debug__":Str))=false:=by decide) (hcd:(x==("__classdict__":Str))=false:=by decide):PE X (.Name x pos) (VH i):=by
 intro pins s σ H Q I h;obtain ⟨v,e,h⟩:=h;obtain ⟨m,hn,hl⟩:=I.loc;obtain ⟨u,r,l⟩:=hl i x v hN e hv;have fin:EP X pins σ Q u s:=⟨v,H,I,r,h⟩;rcases l with ⟨hk,hm⟩ | ⟨hk,c,hc,hcell⟩
 ·exact wpAny_Name (wpAny_loadName_local I.ok.kind hk hn hm fin) hd
 ·rcases hk with hk | hk
  ·exact wpAny_Name (wpAny_loadName_cell I.ok.kind hk hc hcell fin) hd
  ·exact wpAny_Name (wpAny_loadName_free I.ok.kind hk hc hcell fin hcd) hd
theorem Ye {i j pos}:PE X (.Constant (.int i) j pos) (tC (.int i)):=fun _ _ _ H _ I h=>wpAny_Constant_int ⟨.int i,H,I.tok _,⟨_,rfl⟩,h⟩
theorem W7 {b j pos}:PE X (.Constant (.bool b) j pos) (tC (.bl b)):=fun _ _ _ H _ I h=>Constant_bool ⟨.bl b,H,I,rfl,h⟩
theorem Wn {j pos}:PE X (.Constant .none j pos) (tC .non):=fun _ _ _ H _ I h=>Constant_none ⟨.non,H,I,rfl,h⟩
theorem Yg {x j pos}:PE X (.Constant (.str x) j pos) (tC (.str x)):=fun _ _ _ H _ I h=>Calls.Constant_str ⟨.str x,H,I.tok _,⟨_,rfl⟩,h⟩
def Gl (X:Cx) (x:Str):Prop:=X.env.kindOf x=some .globalImplicit
theorem WG {E:Value->Shared->Prop} {pins:List (Addr×Obj)} {s:Shared} {σ:St} {H:Hp} {x:Str} {u:Value} {pos:Pos} {Q:Value->Shared->Prop} (I:Inv X pins σ H s) (hg:Gl X x) (hm:X.mg x=some u) (h:Q u s)
  (hd:(x==("__debug__":Str))=false:=by decide):wpAny (model X.prog X.w) X.A (eval (.Name x pos) X.env) Q E s :=
 Calls.Name_function_global I.ok.kind hg (Calls.loadGlobal_global (by rw [I.ok.glob];exact I.mod.glob.keeps I.bk) hm h) hd
theorem Ul {E:Value->Shared->Prop} {pins:List (Addr×Obj)} {s:Shared} {σ:St} {H:Hp} {x:Str} {u:Value} {pos:Pos} {Q:Value->Shared->Prop} (I:Inv X pins σ H s) (hg:Gl X x) (hm:X.mg x=none) (hv:bootBuiltins x=some u) (h:Q u s)
  (hn:x≠"__name__":=by decide) (hd:(x==("__debug__":Str))=false:=by decide):wpAny (model X.prog X.w) X.A (eval (.Name x pos) X.env) Q E s:=by
 obtain ⟨mb,h1,h2⟩:=I.mod.blt;exact Calls.Name_function_global I.ok.kind hg (Calls.loadGlobal_builtin (by rw [I.ok.glob];exact I.mod.glob.keeps I.bk) hm (by rw [I.ok.blt];exact h1.keeps I.bk) ((h2 x hn).trans hv) h) hd
theorem QW {x:Str} {v:V} {u:Value} {pos:Pos} (hg:Gl X x) (hm:X.mg x=some u) (r:YC v u) (hd:(x==("__debug__":Str))=false:=by decide):PE X (.Name x pos) (tC v) :=
 fun _ _ _ H _ I h=>WG I hg hm ⟨v,H,I,r,h⟩ hd
theorem Rk {x:Str} {v:V} {u:Value} {pos:Pos} (hg:Gl X x) (hm:X.mg x=none) (hv:bootBuiltins x=some u) (r:YC v u) (hn:x≠"__name__":=by decide) (hd:(x==("__debug__":Str))=false:=by decide):PE X (.Name x pos) (tC v) :=
 fun _ _ _ H _ I h=>Ul I hg hm hv ⟨v,H,I,r,h⟩ hn hd
variable {a b:Expr} {ta tb:TE} {pos:Pos}
def tB (t:TE):TT:=fun σ H Q=>t σ H fun x H1=>∃ c,x = .bl c/\Q c H1
theorem Xd {e:Expr} {t:TE} (h:PE X e t) (he:∀ whole,isTrue e X.env whole=(do let v <- whole;standAt e.pos;holding [v] (truthy v)):=by intro _;rfl):PT X e (tB t):=by
 intro pins s σ H Q I hw;refine isTrue_plain (aB (h pins s σ H _ I hw) fun v s1 ⟨x,H1,I1,r1,q1⟩=>?_) (he _);obtain ⟨d,rfl,q⟩:=q1
 cases r1
 exact wpAny_truthy_bool ⟨H1,I1,q⟩
variable {tA rF:TT} {Y7:List Expr}
def uG (t u:TT):TT:=fun σ H Q=>t σ H fun c H1=>if c=true then u σ H1 Q else Q false H1
def Dr (t u:TT):TT:=fun σ H Q=>t σ H fun c H1=>if c=true then Q true H1 else u σ H1 Q
def uH (t:TT):TT:=fun σ H Q=>t σ H fun c H1=>Q (!c) H1
theorem VO (ha:PT X a tA):PW X (.BoolOp .And [a] pos) tA:=by
 intro wh pins s σ H Q I h;refine isTrue_and (aB (ha pins s σ H Q I h) fun c s1 e=>?_)
 cases c with
 | true=>exact isTrue_and_nil e
 | false=>exact e
theorem Vk (ha:PT X a tA):PW X (.BoolOp .Or [a] pos) tA:=by
 intro wh pins s σ H Q I h;refine isTrue_or (aB (ha pins s σ H Q I h) fun c s1 e=>?_)
 cases c with
 | false=>exact isTrue_or_nil e
 | true=>exact e
theorem Um (ha:PT X a tA) (hb:PW X (.BoolOp .And (b::Y7) pos) rF):PW X (.BoolOp .And (a::b::Y7) pos) (uG tA rF):=by
 intro wh pins s σ H Q I h;refine isTrue_and (aB (ha pins s σ H _ I h) fun c s1 ⟨H1,I1,q1⟩=>?_)
 cases c with
 | true=>exact hb wh pins s1 σ H1 Q I1 q1
 | false=>exact ⟨H1,I1,q1⟩
theorem VZ (ha:PT X a tA) (hb:PW X (.BoolOp .Or (b::Y7) pos) rF):PW X (.BoolOp .Or (a::b::Y7) pos) (Dr tA rF):=by
 intro wh pins s σ H Q I h;refine isTrue_or (aB (ha pins s σ H _ I h) fun c s1 ⟨H1,I1,q1⟩=>?_)
 cases c with
 | true=>exact ⟨H1,I1,q1⟩
 | false=>exact hb wh pins s1 σ H1 Q I1 q1
theorem Xr (ha:PT X a tA):PT X (.UnaryOp .Not a pos) (uH tA):=by
 intro pins s σ H Q I h;exact isTrue_not (ha pins s σ H (fun c H1=>Q (!c) H1) I h)
def Ds (ta tb:TE):TE:=fun σ H Q=>ta σ H fun x H1=>∃ c,x = .bl c/\if c=true then tb σ H1 Q else Q (.bl false) H1
def uI (ta tb:TE):TE:=fun σ H Q=>ta σ H fun x H1=>∃ c,x = .bl c/\if c=true then Q (.bl true) H1 else tb σ H1 Q
def BP (ta:TE):TE:=fun σ H Q=>ta σ H fun x H1=>∃ c,x = .bl c/\Q (.bl (!c)) H1
theorem WV {op} {t:TE} (h:PE X a t):PE X (.BoolOp op [a] pos) t:=fun pins s σ H Q I hw=>BoolOp_one (h pins s σ H Q I hw)
theorem Uo (ha:PE X a ta) (hb:PE X (.BoolOp .And (b::Y7) pos) tb):PE X (.BoolOp .And (a::b::Y7) pos) (Ds ta tb):=by
 intro pins s σ H Q I h;refine BoolOp_and (aB (ha pins s σ H _ I h) fun v s1 ⟨x,H1,I1,r1,q1⟩=>?_);obtain ⟨c,rfl,q1⟩:=q1
 cases r1
 refine wpAny_truthy_bool ?_
 cases c with
 | true=>exact hb pins s1 σ H1 Q I1 q1
 | false=>exact ⟨.bl false,H1,I1,rfl,q1⟩
theorem Qt (ha:PE X a ta) (hb:PE X (.BoolOp .Or (b::Y7) pos) tb):PE X (.BoolOp .Or (a::b::Y7) pos) (uI ta tb):=by
 intro pins s σ H Q I h;refine BoolOp_or (aB (ha pins s σ H _ I h) fun v s1 ⟨x,H1,I1,r1,q1⟩=>?_);obtain ⟨c,rfl,q1⟩:=q1
 cases r1
 refine wpAny_truthy_bool ?_
 cases c with
 | false=>exact hb pins s1 σ H1 Q I1 q1
 | true=>exact ⟨.bl true,H1,I1,rfl,q1⟩
def Dt (t:TT) (ta tb:TE):TE:=fun σ H Q=>t σ H fun c H1=>if c=true then ta σ H1 Q else tb σ H1 Q
theorem Rm {c:Expr} (hc:PT X c tA) (ha:PE X a ta) (hb:PE X b tb):PE X (.IfExp c a b pos) (Dt tA ta tb):=by
 intro pins s σ H Q I h;refine wpAny_IfExp (aB (hc pins s σ H _ I h) fun d s1 ⟨H1,I1,q1⟩=>?_)
 cases d with
 | true=>exact ha pins s1 σ H1 Q I1 q1
 | false=>exact hb pins s1 σ H1 Q I1 q1
end
def au (K:W.Frag) (H:Hp) (a:Addr) (xs:List V):Prop :=
 Rd H a (.lst xs) \/
  ∃ (o:Obj) (its:Array Value) (n:Nat),K.lookup a=some o/\o.cls = .type "list"/\o.dict=none/\o.data = .seq its n/\its.size<=sizeLine/\Yu xs its.toList
def aD (K:W.Frag) (H:Hp) (a:Addr) (xs:List V):Prop :=
 Rd H a (.tup xs) \/
  ∃ (o:Obj) (its:Array Value) (n:Nat),K.lookup a=some o/\o.cls = .type "tuple"/\o.data = .seq its n/\its.size<=sizeLine/\Yu xs its.toList
def Oh:Value->Option V
 | .none=>some .non
 | .bool b=>some (.bl b)
 | .int i _=>some (.int i)
 | .str x _=>some (.str x)
 | .bytes b _=>some (.jc b)
 | .float b _=>some (.flt b)
 | .ref a=>some (.ref a)
 | .type n=>some (.ty n)
 | _=>none
theorem YC.abs {x:V} {u:Value} (r:YC x u):Oh u=some x:=by
 cases x with
 | non=>cases r;rfl
 | bl _=>cases r;rfl
 | int _=>obtain ⟨t,rfl⟩:=r;rfl
 | str _=>obtain ⟨t,rfl⟩:=r;rfl
 | jc _=>obtain ⟨t,rfl⟩:=r;rfl
 | flt _=>obtain ⟨t,rfl⟩:=r;rfl
 | ref _=>cases r;rfl
 | ty _=>cases r;rfl
theorem YC.inj {x y:V} {u:Value} (r:YC x u) (q:YC y u):x=y:=Option.some.inj (r.abs.symm.trans q.abs)
theorem Yu.inj:∀ {xs ys:List V} {us:List Value},Yu xs us->Yu ys us->xs=ys
 | _,_,_,.nil,.nil=>rfl
 | _,_,_,.cons r t,.cons r' t'=>by rw [r.inj r',Yu.inj t t']
section
variable {X:Cx} {pins:List (Addr×Obj)} {σ:St} {H:Hp} {s:Shared} {a:Addr} {xs ys:List V}
theorem au.of {K:W.Frag} (h:H a=some (.lst xs)):au K H a xs := .inl (.inl h)
theorem aD.of {K:W.Frag} (h:H a=some (.tup xs)):aD K H a xs := .inl (.inl h)
theorem Inv.list (I:Inv X pins σ H s) (h:au X.K H a xs):∃ its:List Value,Yu xs its/\PlainL s.heap a its.toArray/\xs.length<=sizeLine:=by
 rcases h with h | ⟨o,its,n,hk,hc,hd,hs,hz,r⟩
 ·obtain ⟨z,its,n,r,e⟩:=h.ok I.hok
  exact ⟨its,r,⟨_,n,e,rfl,rfl,rfl⟩,z⟩
 ·refine ⟨its.toList,r,⟨o,n,I.bF a o hk,hc,hd,by simpa using hs⟩,?_⟩
  have e:=r.length;simp only [Array.length_toList] at e;omega
theorem Inv.tuple (I:Inv X pins σ H s) (h:aD X.K H a xs):∃ its:List Value,Yu xs its/\IsTup s.heap a its.toArray/\xs.length<=sizeLine:=by
 rcases h with h | ⟨o,its,n,hk,hc,hs,hz,r⟩
 ·obtain ⟨z,its,r,p⟩:=h.ok I.hok
  exact ⟨its,r,p,z⟩
 ·refine ⟨its.toList,r,⟨o,I.bF a o hk,hc,n,by simpa using hs⟩,?_⟩
  have e:=r.length;simp only [Array.length_toList] at e;omega
theorem Inv.qz (I:Inv X pins σ H s) (h:au X.K H a xs) (h':au X.K H a ys):xs=ys:=by
 obtain ⟨its,r,⟨o,n,e,_,_,d⟩,_⟩:=I.list h;obtain ⟨its',r',⟨o',n',e',_,_,d'⟩,_⟩:=I.list h';rw [e] at e';cases e'
 rw [d] at d'
 injection d' with d1 _
 have:its=its':=by simpa using congrArg Array.toList d1
 subst this;exact r.inj r'
theorem Inv.oW (I:Inv X pins σ H s) (h:aD X.K H a xs) (h':aD X.K H a ys):xs=ys:=by
 obtain ⟨its,r,⟨o,e,_,n,d⟩,_⟩:=I.tuple h;obtain ⟨its',r',⟨o',e',_,n',d'⟩,_⟩:=I.tuple h';rw [e] at e';cases e'
 rw [d] at d'
 injection d' with d1 _
 have:its=its':=by simpa using congrArg Array.toList d1
 subst this;exact r.inj r'
end
abbrev Cx.wish (X:Cx) (E:Value->Shared->Prop):Cx:={ X with xe:=E }
abbrev Cx.cO (X:Cx):Cx:=X.wish fun _ _=>False
theorem Cx.Ok.wish {X:Cx} (ok:X.Ok) (E:Value->Shared->Prop):(X.wish E).Ok :=
 ⟨ok.mod,ok.kind,ok.glob,ok.blt,ok.above,ok.inj,ok.has,ok.cab,ok.hd,ok.frames,ok.stk,ok.rD,ok.bs,ok.jf,ok.jz,ok.jU,ok.fB,ok.jF⟩
theorem Cx.Ok.eY {X:Cx} {E:Value->Shared->Prop} (ok:(X.wish E).Ok):X.Ok :=
 ⟨ok.mod,ok.kind,ok.glob,ok.blt,ok.above,ok.inj,ok.has,ok.cab,ok.hd,ok.frames,ok.stk,ok.rD,ok.bs,ok.jf,ok.jz,ok.jU,ok.fB,ok.jF⟩
section
variable {X:Cx} {pins:List (Addr×Obj)} {σ:St} {H:Hp} {s:Shared} {E:Value->Shared->Prop}
theorem Inv.wish (I:Inv X pins σ H s) (E:Value->Shared->Prop):Inv (X.wish E) pins σ H s:=⟨I.ok.wish E,I.os,I.bare,I.base,I.loc,I.cell,I.free,I.fP,I.pin,I.hok,I.len⟩
theorem Inv.eY (I:Inv (X.wish E) pins σ H s):Inv X pins σ H s:=⟨I.ok.eY,I.os,I.bare,I.base,I.loc,I.cell,I.free,I.fP,I.pin,I.hok,I.len⟩
theorem SP.eY {D:Ends} {f:Flow} {s':Shared} (h:SP (X.wish E) pins D f s'):SP X pins D f s':=by
 cases f with
 | next=>obtain ⟨σ',H',I,q⟩:=h;exact ⟨σ',H',I.eY,q⟩
 | brk=>obtain ⟨σ',H',I,q⟩:=h;exact ⟨σ',H',I.eY,q⟩
 | cont=>obtain ⟨σ',H',I,q⟩:=h;exact ⟨σ',H',I.eY,q⟩
 | ret u=>obtain ⟨v,σ',H',I,r,q⟩:=h;exact ⟨v,σ',H',I.eY,r,q⟩
theorem gn.cO {st:List Stmt} {t:TS} (h:gn X.cO st t):gn X st t:=fun pins s σ H D I hw =>
 wpAny_mono (h pins s σ H D (I.wish _) hw) (fun _ _ q=>q.eY) fun _ _ z=>False.elim z
end
section
variable {X:Cx} {st:Stmt} {Y7:List Stmt} {t u:TS} {e:Expr} {te:TE} {pos:Pos}
def UQ:TS:=fun D σ H=>D.nx σ H
def X0 (t u:TS):TS:=fun D σ H=>t { D with nx:=u D } σ H
theorem Yi:gn X [] UQ:=fun _ _ σ H _ I h=>wpAny_execs_nil ⟨σ,H,I,h⟩
theorem Yc (h1:PS X st t) (h2:gn X Y7 u):gn X (st::Y7) (X0 t u):=by
 intro pins s σ H D I h;refine wpAny_execs_cons (aB (h1 pins s σ H { D with nx:=u D } I h) fun f s1 q=>?_)
 cases f with
 | next =>
  obtain ⟨σ',H',I',q⟩:=q;exact h2 pins s1 σ' H' D I' q
 | ret v=>exact q
 | brk=>exact q
 | cont=>exact q
theorem Yd (h1:PS X st t):gn X [st] t:=by
 intro pins s σ H D I h;refine wpAny_execs_cons (aB (h1 pins s σ H D I h) fun f s1 q=>?_)
 cases f with
 | next=>exact wpAny_execs_nil q
 | ret v=>exact q
 | brk=>exact q
 | cont=>exact q
def Rn:TS:=fun D σ H=>D.bk σ H
def BR:TS:=fun D σ H=>D.ct σ H
theorem Inv.quiet {pins:List (Addr×Obj)} {σ:St} {H:Hp} {s:Shared} (I:Inv X pins σ H s):interactive X.env=false:=by simp [interactive,I.ok.kind]
def uJ (te:TE):TS:=fun D σ H=>te σ H fun _ H1=>D.nx σ H1
theorem YY (he:PE X e te) (hs:swapsWith e none pos.line X.env=pure false:=by rfl):PS X (.Expr e pos) (uJ te):=by
 intro pins s σ H D I h;exact wpAny_Expr_any (aB (he pins s σ H _ I h) fun v s1 ⟨x,H1,I1,r1,q1⟩=>⟨σ,H1,I1,q1⟩) I.quiet hs
def uK (te:TE):TS:=fun D σ H=>te σ H D.rt
theorem Yj (he:PE X e te):PS X (.Return (some e) pos) (uK te):=by
 intro pins s σ H D I h;exact wpAny_Return_some (aB (he pins s σ H _ I h) fun v s1 ⟨x,H1,I1,r1,q1⟩=>⟨x,σ,H1,I1,r1,q1⟩)
def BW:TS:=fun D _ H=>D.rt .non H
def QX (c:TT) (t u:TS):TS:=fun D σ H=>c σ H fun b H1=>if b=true then t D σ H1 else u D σ H1
theorem Yo {c:Expr} {a b:List Stmt} {tc:TT} (hc:PT X c tc) (ha:gn X a t) (hb:gn X b u):PS X (.If c a b pos) (QX tc t u):=by
 intro pins s σ H D I h;refine wpAny_If (aB (hc pins s σ H _ I h) fun d s1 ⟨H1,I1,q1⟩=>?_)
 cases d with
 | true=>exact ha pins s1 σ H1 D I1 q1
 | false=>exact hb pins s1 σ H1 D I1 q1
def Ro:TS:=fun _ _ _=>False
end
abbrev TG:=V->St->Hp->(St->Hp->Prop)->Prop
abbrev lC:=List V->St->Hp->(St->Hp->Prop)->Prop
def PG (X:Cx) (target:Expr) (t:TG):Prop :=
 ∀ (pins:List (Addr×Obj)) (s:Shared) (σ:St) (H:Hp) (v:V) (u:Value) (Q:St->Hp->Prop),Inv X pins σ H s->YC v u->t v σ H Q ->
  wpAny (model X.prog X.w) X.A (assign target X.env u) (fun _ s'=>∃ σ' H',Inv X pins σ' H' s'/\Q σ' H') X.xe s
def rG (X:Cx) (ts:List Expr) (t:lC):Prop :=
 ∀ (pins:List (Addr×Obj)) (s:Shared) (σ:St) (H:Hp) (vs:List V) (us:List Value) (Q:St->Hp->Prop),Inv X pins σ H s->Yu vs us->t vs σ H Q ->
  wpAny (model X.prog X.w) X.A (assignInOrder ((assignEach ts X.env).map (·.2)) us) (fun _ s'=>∃ σ' H',Inv X pins σ' H' s'/\Q σ' H') X.xe s
abbrev qC:=V->V->V->Hp->(Hp->Prop)->Prop
def uL (X:Cx) (t:qC):Prop :=
 ∀ (pins:List (Addr×Obj)) (s:Shared) (σ:St) (H:Hp) (o i v:V) (ov iv u:Value) (Q:Hp->Prop),Inv X pins σ H s->YC o ov->YC i iv->YC v u->t o i v H Q ->
  wpAny (model X.prog X.w) X.A (setItem ov iv u) (fun _ s'=>∃ H',Inv X pins σ H' s'/\Q H') X.xe s
abbrev rH:=V->V->Hp->VK->Prop
def uM (X:Cx) (op:Operator) (t:rH):Prop :=
 ∀ (pins:List (Addr×Obj)) (s:Shared) (σ:St) (H:Hp) (x y:V) (v u:Value) (Q:VK),Inv X pins σ H s->YC x v->YC y u->t x y H Q ->
  wpAny (model X.prog X.w) X.A (inplaceOp op v u) (EP X pins σ Q) X.xe s
section
variable {X:Cx} {pos:Pos}
def YD (i:Nat):TG:=fun v σ H Q=>Q (σ.set i (some v)) H
theorem Yv {i:Nat} {x:Str} (hN:X.N.Nodup) (hi:X.N[i]?=some x) (hx:Loc X.env.scope x) (hf:X.fn x=true\/X.env.scope.names.lookup x=some .local:=by first | exact .inl rfl | exact .inr rfl | assumption):PG X (.Name x pos) (YD i):=by
 intro pins s σ H v u Q I r h;exact wpAny_assign_Name (Vj I hN hi hx r (fun s' I'=>⟨_,H,I',h⟩) hf)
def Wo:lC:=fun vs σ H Q=>vs=[]/\Q σ H
def Y5 (t:TG) (u:lC):lC:=fun vs σ H Q=>∃ v r,vs=v::r/\t v σ H fun σ' H'=>u r σ' H' Q
theorem XX:rG X [] Wo:=by
 intro pins s σ H vs us Q I r h;obtain ⟨e,h⟩:=h;subst e
 cases r
 exact assignInOrder_nil ⟨σ,H,I,h⟩
theorem YW {e:Expr} {es:List Expr} {t:TG} {u:lC} (h1:PG X e t) (h2:rG X es u)
  (hs:(assignEach (e::es) X.env).map (·.2)=assign e X.env::(assignEach es X.env).map (·.2):=by rfl):rG X (e::es) (Y5 t u):=by
 intro pins s σ H vs us Q I r h;obtain ⟨v,vr,e1,h⟩:=h;subst e1
 cases r with
 | cons r rr =>
  rw [hs];refine assignInOrder_cons (aB (h1 pins s σ H _ _ _ I r h) fun _ s1 ⟨σ1,H1,I1,q1⟩=>?_);exact h2 pins s1 σ1 H1 _ _ Q I1 rr q1
def Wp (K:W.Frag) (n:Nat) (t:lC):TG:=fun v σ H Q=>∃ a xs,v = .ref a/\aD K H a xs/\xs.length=n/\t xs σ H Q
theorem X8 {es:List Expr} {k:Nat} {t:lC} {n:Nat} (hc:X.calm=true) (h:rG X es t)
  (hn:(assignEach es X.env).length=n:=by rfl) (hst:(assignEach es X.env).findIdx? (·.1)=none:=by rfl):PG X (.Tuple es k pos) (Wp X.K n t):=by
 intro pins s σ H v u Q I r hw;obtain ⟨a,xs,e1,hq,hl,hw⟩:=hw;subst e1
 cases r
 obtain ⟨its,rv,ht,hz⟩:=I.tuple hq;refine assign_Tuple_tuple (I.ok.hd hc) ht (by simp [hn,<- hl,rv.length]) hst fun h' hx=>?_
 have I1:Inv X pins σ H { s with heap:=h' }:=I.kept (t':=s.toks) fun b o e=>hx b o (Nat.ne_of_lt (Heap.lt_size e)) e
 exact h pins _ σ H xs _ Q I1 (by simpa using rv) hw
def uN (to ti:TE) (t:qC):TG:=fun v σ H Q=>to σ H fun o H1=>ti σ H1 fun i H2=>t o i v H2 fun H3=>Q σ H3
theorem Du {o i:Expr} {to ti:TE} {t:qC} (ho:PE X o to) (hi:PE X i ti) (hs:uL X t)
  (ha:∀ v,assign (.Subscript o i pos) X.env v=(do
   let ov <- holding [v] (eval o X.env)
   let iv <- holding [v,ov] (eval i X.env)
   standAt pos
   holding [v,ov,iv] (setItem ov iv v)
   release [v,ov,iv] [])):PG X (.Subscript o i pos) (uN to ti t):=by
 intro pins s σ H v u Q I r h;rw [ha];refine wpAny_bind (wpAny_holding (aB (ho pins s σ H _ I h) fun ov s1 ⟨x,H1,I1,r1,q1⟩=>?_));refine wpAny_bind (wpAny_holding (aB (hi pins s1 σ H1 _ I1 q1) fun iv s2 ⟨y,H2,I2,r2,q2⟩=>?_));refine wpAny_bind (wpAny_standAt (wpAny_bind (wpAny_holding (aB (hs pins s2 σ H2 x y v ov iv u _ I2 r1 r2 r q2) fun _ s3 ⟨H3,I3,q3⟩=>?_))));exact wpAny_release ⟨σ,H3,I3,q3⟩
def oX (te:TE) (g:TG):TS:=fun D σ H=>te σ H fun x H1=>g x σ H1 D.nx
theorem Dv {tg e:Expr} {te:TE} {g:TG} (he:PE X e te) (hg:PG X tg g) (hs:swapsWithSole [tg] e pos.line X.env=pure false) (hw:swappedStores [tg] e X.env=pure none)
  (h1:(assignEach [tg] X.env).map (·.2)=[assign tg X.env]):PS X (.Assign [tg] e pos) (oX te g):=by
 intro pins s σ H D I h;refine wpAny_Assign_stores (aB (he pins s σ H _ I h) fun v s1 ⟨x,H1,I1,r1,q1⟩=>?_) hs hw;rw [h1];exact aB (hg pins s1 σ H1 x v _ I1 r1 q1) fun _ s2 q=>q
theorem YB {i:Nat} {x:Str} {e:Expr} {te:TE} {pos':Pos} (hN:X.N.Nodup) (hi:X.N[i]?=some x) (hx:Loc X.env.scope x) (he:PE X e te) (hs:swapsWith e (some (.Name x pos')) pos.line X.env=pure false:=by rfl) (hf:X.fn x=true\/X.env.scope.names.lookup x=some .local:=by first | exact .inl rfl | exact .inr rfl | assumption) :
  PS X (.Assign [.Name x pos'] e pos) (oX te (YD i)):=by
 intro pins s σ H D I h;refine wpAny_Assign_Name (aB (he pins s σ H _ I h) fun v s1 ⟨y,H1,I1,r1,q1⟩=>?_) hs;exact Vj I1 hN hi hx r1 (fun s2 I2=>⟨_,H1,I2,q1⟩) hf
def uO (i:Nat) (te:TE) (ti:rH):TS:=fun D σ H=>∃ x,σ[i]?=some (some x)/\te σ H fun y H1=>ti x y H1 fun z H2=>D.nx (σ.set i (some z)) H2
theorem Dw {i:Nat} {x:Str} {e:Expr} {te:TE} {op:Operator} {ti:rH} {pos':Pos} (hN:X.N.Nodup) (hi:X.N[i]?=some x) (hx:Loc X.env.scope x) (he:PE X e te) (ho:uM X op ti) (hf:X.fn x=true\/X.env.scope.names.lookup x=some .local:=by first | exact .inl rfl | exact .inr rfl | assumption) :
  PS X (.AugAssign (.Name x pos') op e pos) (uO i te ti):=by
 intro pins s σ H D I h;obtain ⟨v,e1,h⟩:=h;obtain ⟨m,hn,hl⟩:=I.loc;have vis:j7 X.env.scope x:=by rcases hx with k | k;exact .inl k;exact .inr (.inl k)
 obtain ⟨u,r,l⟩:=hl i x v hi e1 vis;refine wpAny_AugAssign_Name ?_;have go:wpAny (model X.prog X.w) X.A (eval e X.env) (fun w s₂=>wpAny (model X.prog X.w) X.A (inplaceOp op u w) (fun r s₃=>wpAny (model X.prog X.w) X.A (storeName X.env x r) (fun _=>SP X pins D .next) X.xe s₃) X.xe s₂) X.xe s:=by
  refine aB (he pins s σ H _ I h) fun w s1 ⟨y,H1,I1,r1,q1⟩=>?_
  refine aB (ho pins s1 σ H1 v y u w _ I1 r r1 q1) fun z s2 ⟨zv,H2,I2,r2,q2⟩=>?_
  exact Vj I2 hN hi hx r2 (fun s3 I3=>⟨_,H2,I3,q2⟩) hf
 rcases l with ⟨hk,hm⟩ | ⟨hk,c,hc,hcell⟩
 ·exact wpAny_loadName_local I.ok.kind hk hn hm go
 ·rcases hk with hk | hk
  ·exact wpAny_loadName_cell I.ok.kind hk hc hcell go
  ·rcases hx with k | k
   ·have:X.env.scope.names.lookup x=some .free:=hk
    rw [k] at this;cases this
   ·have:X.env.scope.names.lookup x=some .free:=hk
    rw [k] at this;cases this
def uP (f:Int->Int->Int):rH:=fun x y H Q=>∃ i j,x = .int i/\y = .int j/\Q (.int (f i j)) H
theorem Rp:uM X .Add (uP fun i j=>i+j):=by
 intro pins s σ H x y v u Q I r1 r2 h;obtain ⟨i,j,e1,e2,q⟩:=h;subst e1;subst e2;obtain ⟨t,rfl⟩:=r1;obtain ⟨t',rfl⟩:=r2;exact iadd_int ⟨.int _,H,I.tok _,⟨_,rfl⟩,q⟩
theorem Rq:uM X .Sub (uP fun i j=>i - j):=by
 intro pins s σ H x y v u Q I r1 r2 h;obtain ⟨i,j,e1,e2,q⟩:=h;subst e1;subst e2;obtain ⟨t,rfl⟩:=r1;obtain ⟨t',rfl⟩:=r2;exact isub_int ⟨.int _,H,I.tok _,⟨_,rfl⟩,q⟩
def Rr (c:TT) (tb:TS):TS:=fun D σ H=>∃ W:Nat->St->Hp->Prop,(∃ m,W m σ H)/\∀ m σ H,W m σ H ->
 c σ H fun b H1=>if b=true then ∃ N:St->Hp->Prop,(∀ σ' H',N σ' H'->∃ m',m'<m/\W m' σ' H')/\tb { D with nx:=N,ct:=N,bk:=D.nx } σ H1 else D.nx σ H1
theorem Dy {c:Expr} {body:List Stmt} {tc:TT} {tb:TS} (hp:PassesOwn (model X.prog X.w) X.A X.env X.xe) (hc:PT X c tc) (hb:gn X body tb):PS X (.While c body [] pos) (Rr tc tb):=by
 intro pins s σ H D I h;obtain ⟨W,⟨m0,w0⟩,turn⟩:=h;refine wpAny_While (codeAny_whileLoop (fun n s'=>∃ σ' H',Inv X pins σ' H' s'/\W n σ' H') ?_ m0 ⟨σ,H,I,w0⟩);rintro n s1 ⟨σ1,H1,I1,w1⟩;refine wpAny_passesOwn hp (aB (hc pins s1 σ1 H1 _ I1 (turn n σ1 H1 w1)) fun b s2 ⟨H2,I2,q2⟩=>?_)
 cases b with
 | true =>
  obtain ⟨N,hN,q2⟩:=q2;rw [if_pos rfl];refine wpAny_passesOwn hp (aB (hb pins s2 σ1 H2 _ I2 q2) fun f s3 q3=>?_)
  cases f with
  | next =>
   obtain ⟨σ3,H3,I3,n3⟩:=q3;obtain ⟨m',hm,w3⟩:=hN σ3 H3 n3;exact ⟨m',hm,σ3,H3,I3,w3⟩
  | cont =>
   obtain ⟨σ3,H3,I3,n3⟩:=q3;obtain ⟨m',hm,w3⟩:=hN σ3 H3 n3;exact ⟨m',hm,σ3,H3,I3,w3⟩
  | brk=>exact q3
  | ret v=>exact q3
 | false =>
  rw [if_neg Bool.false_ne_true];exact wpAny_execs_nil ⟨σ1,H2,I2,q2⟩
end
structure It where
 go:Nat->Hp->Prop
 jt:Nat->Hp->V->Hp->Prop
 stop:Nat->Hp->Prop
def W3 (X:Cx) (pins:List (Addr×Obj)) (H:Hp) (b:Addr):Prop :=
 H b=none/\b≠X.env.locals/\b∉X.fs/\(b∈X.ex\/X.s₀.heap.objs.size<=b)/\(∀ x c,X.env.cells.lookup x=some c->c≠b)/\∀ p∈X.pn++pins,p.1≠b
theorem Inv.lD {X:Cx} {pins:List (Addr×Obj)} {σ:St} {H H':Hp} {s:Shared} {b:Addr} (I:Inv X pins σ H s) (hb:s.heap.objs.size<=b) (hn:H' b=none):W3 X pins H' b:=by
 refine ⟨hn,Nat.ne_of_gt (Nat.lt_of_lt_of_le I.lt hb),I.Oe hb,.inr (Nat.le_trans I.sz hb),fun x c e z=>?_,fun p hp z=>?_⟩
 ·obtain ⟨v,q⟩:=I.cell x c e
  exact absurd (Nat.lt_of_lt_of_le q.lt (by rw [z];exact hb)) (Nat.lt_irrefl _)
 ·exact absurd (Nat.lt_of_lt_of_le (Heap.lt_size (I.pin p hp).1) (by rw [z];exact hb)) (Nat.lt_irrefl _)
structure Turn (P:Program) (w:World) (K:W.Frag) (tg:Expr) (J:It) (fp:List Addr) (it:Addr) (tn:Nat->Heap->Prop):Prop where
 mem:it∈fp
 obj:∀ i h,tn i h->∀ b∈fp,∃ o,h.get? b=some o/\∀ v,o.data ≠ .cell v
 keep:∀ i h h',tn i h->(∀ b∈fp,∀ o,h.get? b=some o->h'.get? b=some o)->tn i h'
 item:∀ (X:Cx),X.prog=P->X.w=w->X.K=K->X.calm=true->∀ (i:Nat) (pins:List (Addr×Obj)) (s:Shared) (σ:St) (H:Hp) (E:Value->Shared->Prop),Inv X pins σ H s->(∀ b∈fp,W3 X pins H b)->tn i s.heap->J.go i H ->
  wpAny (model P w) X.A (pyNext (.ref it)) (fun r s1=>∃ u,r=some u /\
   wpAny (model P w) X.A (letOwnedTupleGo tg (.ref it) u) (fun _ s2=>∃ x H',Inv X pins σ H' s2/\YC x u/\J.jt i H x H'/\tn (i+1) s2.heap/\∀ b∈fp,H' b=none) E s1) E s
 done:∀ (X:Cx),X.prog=P->X.w=w->X.K=K->X.calm=true->∀ (i:Nat) (pins:List (Addr×Obj)) (s:Shared) (σ:St) (H:Hp) (E:Value->Shared->Prop),Inv X pins σ H s->(∀ b∈fp,W3 X pins H b)->tn i s.heap->J.stop i H ->
  wpAny (model P w) X.A (pyNext (.ref it)) (fun r s1=>r=none/\Inv X pins σ H s1) E s
 self:∀ (A:Around) (i:Nat) (s:Shared) (Q:Value->Shared->Prop) (E:Value->Shared->Prop),tn i s.heap->Q (.ref it) s->wpAny (model P w) A (pyIter (.ref it)) Q E s
abbrev TI:=St->Hp->(It->Hp->Prop)->Prop
def PIE (X:Cx) (pins:List (Addr×Obj)) (σ:St) (tg:Expr) (R:It->Hp->Prop) (itv:Value) (s2:Shared):Prop :=
 ∃ (it:Addr) (fp:List Addr) (tn:Nat->Heap->Prop) (J:It) (H':Hp),itv = .ref it/\Inv X pins σ H' s2/\Turn X.prog X.w X.K tg J fp it tn/\tn 0 s2.heap/\(∀ b∈fp,W3 X pins H' b)/\R J H'
def PI (X:Cx) (tg iter:Expr) (wi:TI):Prop :=
 ∀ (pins:List (Addr×Obj)) (s:Shared) (σ:St) (H:Hp) (R:It->Hp->Prop),Inv X pins σ H s->wi σ H R ->
  wpAny (model X.prog X.w) X.A (eval iter X.env) (fun v s1=>wpAny (model X.prog X.w) X.A (pyIter v) (PIE X pins σ tg R) X.xe s1) X.xe s
theorem rJ {M:Model} {A:Around} {E:Value->Shared->Prop} {s:Shared} {tg:Expr} {it:Addr} {u:Value} {o:Obj} {n:String} {vs:Array Value} {Q:Unit->Shared->Prop} (ho:s.heap.get? it=some o) (hc:o.cls = .type n) (hd:o.data = .fields vs)
  (hn:["enumerate","zip","dict_itemiterator","dict_reverseitemiterator","odict_iterator","itertools.zip_longest","itertools.pairwise"].contains n=false) (hQ:Q () s):wpAny M A (letOwnedTupleGo tg (.ref it) u) Q E s:=by
 unfold letOwnedTupleGo
 cases tg<;>first
  | exact wpAny_pure hQ
  | (cases u<;>first
    | exact wpAny_pure hQ
    | (refine wpAny_bind (wpAny_load ho ?_)
       rw [hc,hd]
       show wpAny M A (if (["enumerate","zip","dict_itemiterator","dict_reverseitemiterator","odict_iterator","itertools.zip_longest","itertools.pairwise"].contains n&&vs[0]?==some (rawInt _))=true then _ else _) Q E s
       rw [if_neg (by intro h;rw [hn,Bool.false_and] at h;cases h)];exact wpAny_pure hQ))
def m8 (K:W.Frag) (a:Addr):It :=
 ⟨fun i H=>∃ xs x,au K H a xs/\xs[i]?=some x,fun i H x H'=>H'=H/\∀ xs,au K H a xs->xs[i]?=some x,fun i H=>∃ xs,au K H a xs/\xs.length<=i⟩
def uQ (K:W.Frag) (a:Addr):It :=
 ⟨fun i H=>∃ xs x,aD K H a xs/\xs[i]?=some x,fun i H x H'=>H'=H/\∀ xs,aD K H a xs->xs[i]?=some x,fun i H=>∃ xs,aD K H a xs/\xs.length<=i⟩
def j8 (lo:Int) (n:Nat):It:=⟨fun i _=>i<n,fun i H x H'=>H'=H/\x = .int (lo+i),fun i _=>n<=i⟩
theorem Rt {P:Program} {w:World} {K:W.Frag} {tg:Expr} (a it:Addr):Turn P w K tg (m8 K a) [it] it (fun i h=>h.IsListIter it a i) where
 mem:=by simp
 obj:=fun i h st b hb=>by
  have e:b=it:=by simpa using hb
  subst e;obtain ⟨o,e,c,d⟩:=st;exact ⟨o,e,fun v z=>by rw [d] at z;cases z⟩
 keep:=fun i h h' st k=>st.at fun o e=>k it (by simp) o e
 item:=by
  intro X hP hw hK hc i pins s σ H E I hf st hg;subst hP hw hK;obtain ⟨xs,x,hq,hx⟩:=hg;obtain ⟨its,rv,p,hz⟩:=I.list hq;obtain ⟨u,hu,ru⟩:=rv.get hx;obtain ⟨f0,f1,f2,f3,f4,f5⟩:=hf it (by simp);refine wpAny_pyNext_list_item st p.isList (x:=u) (by simpa using hu) fun h' st' sb=>?_
  have I1:Inv X pins σ H { s with heap:=h' }:=I.turned (t':=s.toks) (fun b o hb e=>(sb.2 b hb).trans e) f0 f1 f3 f4 f5;obtain ⟨o,e,c,d⟩:=id st';exact ⟨u,rfl,rJ (s:={ s with heap:=h' }) e c d (by decide) ⟨x,H,I1,ru,⟨rfl,fun ys hy=>by rw [I.qz hy hq];exact hx⟩,st',fun b hb=>(hf b hb).1⟩⟩
 done:=by
  intro X hP hw hK hc i pins s σ H E I hf st hg;subst hP hw hK;obtain ⟨xs,hq,hx⟩:=hg;obtain ⟨its,rv,p,hz⟩:=I.list hq;obtain ⟨f0,f1,f2,f3,f4,f5⟩:=hf it (by simp);have hl:=rv.length;exact wpAny_pyNext_list_end (I.ok.hd hc) st p.isList (by simp;omega) fun h' eb=>⟨rfl,I.turned (t':=s.toks) (fun b o hb e=>eb b o hb e) f0 f1 f3 f4 f5⟩
 self:=fun _ _ _ _ _ st h=>wpAny_pyIter_listiter st h
theorem Ru {P:Program} {w:World} {K:W.Frag} {tg:Expr} (a it:Addr):Turn P w K tg (uQ K a) [it] it (fun i h=>h.IsTupleIter it a i) where
 mem:=by simp
 obj:=fun i h st b hb=>by
  have e:b=it:=by simpa using hb
  subst e;obtain ⟨o,e,c,d⟩:=st;exact ⟨o,e,fun v z=>by rw [d] at z;cases z⟩
 keep:=fun i h h' st k=>st.at fun o e=>k it (by simp) o e
 item:=by
  intro X hP hw hK hc i pins s σ H E I hf st hg;subst hP hw hK;obtain ⟨xs,x,hq,hx⟩:=hg;obtain ⟨its,rv,p,hz⟩:=I.tuple hq;obtain ⟨u,hu,ru⟩:=rv.get hx;obtain ⟨f0,f1,f2,f3,f4,f5⟩:=hf it (by simp);refine wpAny_pyNext_tuple_item st (show s.heap.IsTuple a its.toArray from p) (x:=u) (by simpa using hu) fun h' st' sb=>?_
  have I1:Inv X pins σ H { s with heap:=h' }:=I.turned (t':=s.toks) (fun b o hb e=>(sb.2 b hb).trans e) f0 f1 f3 f4 f5;obtain ⟨o,e,c,d⟩:=id st';exact ⟨u,rfl,rJ (s:={ s with heap:=h' }) e c d (by decide) ⟨x,H,I1,ru,⟨rfl,fun ys hy=>by rw [I.oW hy hq];exact hx⟩,st',fun b hb=>(hf b hb).1⟩⟩
 done:=by
  intro X hP hw hK hc i pins s σ H E I hf st hg;subst hP hw hK;obtain ⟨xs,hq,hx⟩:=hg;obtain ⟨its,rv,p,hz⟩:=I.tuple hq;obtain ⟨f0,f1,f2,f3,f4,f5⟩:=hf it (by simp);have hl:=rv.length;exact wpAny_pyNext_tuple_end (I.ok.hd hc) st (show s.heap.IsTuple a its.toArray from p) (by simp;omega) fun h' eb=>⟨rfl,I.turned (t':=s.toks) (fun b o hb e=>eb b o hb e) f0 f1 f3 f4 f5⟩
 self:=fun _ _ _ _ _ st h=>wpAny_pyIter_tupleiter st h
theorem Rv {P:Program} {w:World} {K:PySem.W.Frag} {tg:Expr} (it:Addr) (lo:Int) (n:Nat):Turn P w K tg (j8 lo n) [it] it (fun i h=>IsRangeIter h it (lo+(i:Nat)*1) ((n:Int) - (i:Nat)) 1) where
 mem:=by simp
 obj:=fun i h st b hb=>by
  have e:b=it:=by simpa using hb
  subst e;exact ⟨_,st,fun v z=>by
   have z':Data.fields _=Data.cell v:=z
   cases z'⟩
 keep:=fun i h h' st k=>k it (by simp) _ st
 item:=by
  intro X hP hw hK hc i pins s σ H E I hf st hg;subst hP hw hK;obtain ⟨f0,f1,f2,f3,f4,f5⟩:=hf it (by simp);have W:=Walks.range (prog:=X.prog) (w:=X.w) (I.ok.hd hc) it lo 1 n;refine W.item i s _ _ hg st fun v h' tk hv st' kk=>?_
  obtain ⟨t,rfl⟩:=hv;have I1:Inv X pins σ H { s with heap:=h',toks:=tk }:=I.turned (fun b o hb e=>kk b o (by simpa using hb) e) f0 f1 f3 f4 f5;refine ⟨_,rfl,rJ (s:={ s with heap:=h',toks:=tk }) (n:="range_iterator") st' rfl rfl (by decide) ⟨.int (lo+i),H,I1,⟨t,?_⟩,⟨rfl,rfl⟩,st',fun b hb=>(hf b hb).1⟩⟩;rw [Int.mul_one]
 done:=by
  intro X hP hw hK hc i pins s σ H E I hf st hg;subst hP hw hK;obtain ⟨f0,f1,f2,f3,f4,f5⟩:=hf it (by simp);exact wpAny_pyNext_range_end (I.ok.hd hc) st (by have:n<=i:=hg;omega) fun h' eb=>⟨rfl,I.turned (t':=s.toks) (fun b o hb e=>eb b o hb e) f0 f1 f3 f4 f5⟩
 self:=fun _ _ _ _ _ st h=>wpAny_pyIter_rangeiter st h
section
variable {X:Cx} {tg:Expr}
def V0 (K:W.Frag) (tl:TE):TI:=fun σ H R=>tl σ H fun x H1=>∃ a,x = .ref a/\(∃ xs,au K H1 a xs)/\R (m8 K a) H1
def qD (K:W.Frag) (tl:TE):TI:=fun σ H R=>tl σ H fun x H1=>∃ a,x = .ref a/\(∃ xs,aD K H1 a xs)/\R (uQ K a) H1
theorem Y9 {l:Expr} {tl:TE} (hl:PE X l tl):PI X tg l (V0 X.K tl):=by
 intro pins s σ H R I h;refine aB (hl pins s σ H _ I h) fun v s1 ⟨x,H1,I1,r1,q1⟩=>?_
 obtain ⟨a,e,⟨xs,hq⟩,q⟩:=q1;subst e
 cases r1
 obtain ⟨its,rv,p,hz⟩:=I1.list hq;refine wpAny_pyIter_list p.isList ?_;refine ⟨s1.heap.objs.size,[s1.heap.objs.size],_,_,H1,rfl,I1.kept (t':=s1.toks) fun b o e=>Heap.get?_push_of_some _ e,Rt a _,⟨_,Heap.get?_push_size _ rfl,rfl,rfl⟩,fun b hb=>?_,q⟩;have e:b=s1.heap.objs.size:=by simpa using hb
 subst e;exact I1.lD (Nat.le_refl _) (I1.hok.fresh (Nat.le_refl _))
theorem Up {l:Expr} {tl:TE} (hl:PE X l tl):PI X tg l (qD X.K tl):=by
 intro pins s σ H R I h;refine aB (hl pins s σ H _ I h) fun v s1 ⟨x,H1,I1,r1,q1⟩=>?_
 obtain ⟨a,e,⟨xs,hq⟩,q⟩:=q1;subst e
 cases r1
 obtain ⟨its,rv,p,hz⟩:=I1.tuple hq;refine wpAny_pyIter_tuple (show s1.heap.IsTuple a its.toArray from p) ?_;refine ⟨s1.heap.objs.size,[s1.heap.objs.size],_,_,H1,rfl,I1.kept (t':=s1.toks) fun b o e=>Heap.get?_push_of_some _ e,Ru a _,⟨_,Heap.get?_push_size _ rfl,rfl,rfl⟩,fun b hb=>?_,q⟩;have e:b=s1.heap.objs.size:=by simpa using hb
 subst e;exact I1.lD (Nat.le_refl _) (I1.hok.fresh (Nat.le_refl _))
theorem Dz {pins:List (Addr×Obj)} {σ:St} {H:Hp} {s:Shared} {R:It->Hp->Prop} {E:Value->Shared->Prop} {lo hi:Int} {t u v:Tok} {tk:Nat} (I:Inv X pins σ H s) (h1 : -(2^62)<=lo) (h2:lo<2^62) (h3 : -(2^62)<=hi) (h4:hi<2^62)
  (q:R (j8 lo (hi - lo).toNat) H):wpAny (model X.prog X.w) X.A (pyIter (.ref s.heap.objs.size)) (PIE X pins σ tg R) E { s with heap:=s.heap.push { cls := .type "range",data := .fields #[.int lo t,.int hi u,.int 1 v] },toks:=tk }:=by
 refine wpAny_pyIter_range (IsRange.new ..) (small_one h1 h2 h3 h4) ?_;have I1:Inv X pins σ H { s with heap:=s.heap.push { cls := .type "range",data := .fields #[.int lo t,.int hi u,.int 1 v] },toks:=tk }:=I.kept fun b o e=>Heap.get?_push_of_some _ e
 refine ⟨(s.heap.push { cls := .type "range",data := .fields #[.int lo t,.int hi u,.int 1 v] }).objs.size,[(s.heap.push { cls := .type "range",data := .fields #[.int lo t,.int hi u,.int 1 v] }).objs.size],_,_,H,rfl,
  I1.kept (t':=tk) fun b o e=>Heap.get?_push_of_some _ e,Rv _ lo (hi - lo).toNat,?_,fun b hb=>?_,q⟩
 ·have e1:lo+((0:Nat):Int)*1=lo:=by simp
  have e2:(((hi - lo).toNat:Nat):Int) - ((0:Nat):Int)=Builtin.Range.rangeSize lo hi 1:=by rw [rangeSize_one];split<;>omega
  show IsRangeIter _ _ (lo+((0:Nat):Int)*1) ((((hi - lo).toNat:Nat):Int) - ((0:Nat):Int)) 1
  rw [e1,e2];exact Heap.get?_push_size _ rfl
 ·have e:b=(s.heap.push { cls := .type "range",data := .fields #[.int lo t,.int hi u,.int 1 v] }).objs.size:=by simpa using hb
  subst e;exact I1.lD (Nat.le_refl _) (I1.hok.fresh (Nat.le_refl _))
def rK (ta:TA):TI:=fun σ H R=>ta σ H fun vs H1=>∃ j:Int,vs=[.int j] /\ -(2^62)<=j/\j<2^62/\R (j8 0 j.toNat) H1
def DG (ta:TA):TI:=fun σ H R=>ta σ H fun vs H1=>∃ i j:Int,vs=[.int i,.int j]/\(-(2^62)<=i/\i<2^62 /\ -(2^62)<=j/\j<2^62)/\R (j8 i (j - i).toNat) H1
theorem XD {a:Expr} {ta:TA} {p pos:Pos} (hg:Gl X "range") (hm:X.mg "range"=none) (ha:PA X [a] ta) (hs:starEach [a] X.env=[(false,eval a X.env)]:=by rfl):PI X tg (.Call (.Name "range" p) [a] [] pos) (rK ta):=by
 intro pins s σ H R I h;refine Call_ (Ul I hg hm boot_range (PyProof.Rows.callWith_type1 (aB (ha pos pins s σ H _ I h) fun us s1 ⟨vs,H1,I1,r1,q1⟩=>?_) hs rfl));obtain ⟨j,e,q1,q2,q⟩:=q1;subst e
 cases r1 with
 | cons r rr =>
  cases rr
  obtain ⟨t,rfl⟩:=r;exact call_range_1 (Dz I1 (by omega) (by omega) q1 q2 (by simpa using q))
theorem Rw {a b:Expr} {ta:TA} {p pos:Pos} (hg:Gl X "range") (hm:X.mg "range"=none) (ha:PA X [a,b] ta) (hs:starEach [a,b] X.env=[(false,eval a X.env),(false,eval b X.env)]:=by rfl) (hs2:starEach [b] X.env=[(false,eval b X.env)]:=by rfl) :
  PI X tg (.Call (.Name "range" p) [a,b] [] pos) (DG ta):=by
 intro pins s σ H R I h;refine Call_ (Ul I hg hm boot_range (PyProof.Rows.callWith_type1 (aB (ha pos pins s σ H _ I h) fun us s1 ⟨vs,H1,I1,r1,q1⟩=>?_) (by rw [hs,hs2]) (by rw [hs2];rfl)));obtain ⟨i,j,e,⟨q1,q2,q3,q4⟩,q⟩:=q1;subst e
 cases r1 with
 | cons r rr =>
  cases rr with
  | cons r' rr =>
   cases rr
   obtain ⟨t,rfl⟩:=r;obtain ⟨t',rfl⟩:=r';exact call_range_2 (Dz I1 q1 q2 q3 q4 q)
def oY (wi:TI) (g:TG) (tb:TS):TS:=fun D σ H=>wi σ H fun J H1=>∃ W:Nat->Nat->St->Hp->Prop,(∃ m,W 0 m σ H1)/\∀ i m σ H,W i m σ H ->
 (J.stop i H/\D.nx σ H)\/(J.go i H/\∃ N:St->Hp->Prop,(∀ σ' H',N σ' H'->∃ m',m'<m/\W (i+1) m' σ' H')/\∀ x H',J.jt i H x H'->g x σ H' fun σ2 H2=>tb { D with nx:=N,ct:=N,bk:=D.nx } σ2 H2)
def Uq (fp:List Addr) (h:Heap):List (Addr×Obj):=fp.filterMap fun b=>(h.get? b).map fun o=>(b,o)
theorem Wq {fp:List Addr} {h:Heap} {b:Addr} {o:Obj} (hb:b∈fp) (e:h.get? b=some o):(b,o)∈Uq fp h:=List.mem_filterMap.mpr ⟨b,hb,by rw [e];rfl⟩
theorem Rx {fp:List Addr} {h:Heap} {p:Addr×Obj} (hp:p∈Uq fp h):p.1∈fp/\h.get? p.1=some p.2:=by
 obtain ⟨b,hb,e⟩:=List.mem_filterMap.mp hp
 cases q:h.get? b with
 | none=>rw [q] at e;cases e
 | some o =>
  rw [q] at e
  have e':(b,o)=p:=Option.some.inj e;subst e';exact ⟨hb,q⟩
theorem Inv.pinned {pins:List (Addr×Obj)} {σ:St} {H:Hp} {s:Shared} {fp:List Addr} (I:Inv X pins σ H s) (hf:∀ b∈fp,W3 X pins H b) (ho:∀ b∈fp,∃ o,s.heap.get? b=some o/\∀ v,o.data ≠ .cell v):Inv X (pins++Uq fp s.heap) σ H s :=
 I.m6 fun p hp=>(List.mem_append.mp hp).elim (fun z=>I.pin p (List.mem_append_right _ z)) fun z=>by
  obtain ⟨hb,e⟩:=Rx z;obtain ⟨f0,f1,f2,_⟩:=hf p.1 hb;obtain ⟨o,e',d⟩:=ho p.1 hb;rw [e] at e';cases e'
  exact ⟨e,f0,f1,f2,d⟩
theorem Inv.gZ {pins pl:List (Addr×Obj)} {σ:St} {H:Hp} {s:Shared} (I:Inv X (pins++pl) σ H s):Inv X pins σ H s:=I.m6 fun p hp=>I.pin p (List.mem_append_right _ (List.mem_append_left _ hp))
theorem Xs {iter:Expr} {body:List Stmt} {wi:TI} {g:TG} {tb:TS} {pos:Pos} (hp:PassesOwn (model X.prog X.w) X.A X.env X.xe) (hc:X.calm=true) (hi:PI X tg iter wi) (hg:PG X tg g) (hb:gn X body tb)
  (hs:∀ x,foldedSetIterable iter X.env x=pure x:=by intro _;rfl):PS X (.For tg iter body [] pos) (oY wi g tb):=by
 intro pins s σ H D I h;refine wpAny_For (aB (hi pins s σ H _ I h) fun v s1 h1=>aB h1 fun itv s2 h2=>?_) hs;obtain ⟨it,fp,tn,J,H2,e,I2,T,st2,f2,W,⟨m0,w0⟩,turn⟩:=h2;subst e
 -- what stays true of the iterator's objects through the loop
 have stat:∀ {H':Hp},(∀ b∈fp,H' b=none)->∀ b∈fp,W3 X pins H' b:=fun hn b hb=>⟨hn b hb,(f2 b hb).2⟩
 refine codeAny_forLoop_any (fun n s'=>∃ i σ' H',Inv X pins σ' H' s'/\tn i s'.heap/\(∀ b∈fp,H' b=none)/\W i n σ' H') ?_ m0 ⟨0,σ,H2,I2,st2,fun b hb=>(f2 b hb).1,w0⟩;rintro n s3 ⟨i,σ3,H3,I3,st3,DK,w3⟩;rcases turn i n σ3 H3 w3 with ⟨stop,qn⟩ | ⟨go,N,hN,step⟩
 ·refine wpAny_passesOwn hp (aB (T.done X rfl rfl rfl hc i pins s3 σ3 H3 X.xe I3 (stat DK) st3 stop) fun r s4 ⟨hr,I4⟩=>?_)
  subst hr;exact wpAny_execs_nil ⟨σ3,H3,I4,qn⟩
 ·refine wpAny_passesOwn hp (aB (T.item X rfl rfl rfl hc i pins s3 σ3 H3 X.xe I3 (stat DK) st3 go) fun r s4 ⟨u,hr,h4⟩=>?_)
  subst hr;refine wpAny_passesOwn hp (aB h4 fun _ s5 ⟨x,H5,I5,r5,y5,m9,rM⟩=>?_);have Ry:=I5.pinned (stat rM) (T.obj _ _ m9);refine wpAny_passesOwn hp (aB (hg _ s5 σ3 H5 x u _ Ry r5 (step x H5 y5)) fun _ s6 ⟨Rz,H6,I6,q6⟩=>?_);refine wpAny_passesOwn hp (aB (hb _ s6 Rz H6 _ I6 q6) fun f s7 q7=>?_);have again:∀ {iQ:St} {H7:Hp},Inv X (pins++Uq fp s5.heap) iQ H7 s7->N iQ H7->∃ m,m<n/\∃ i σ' H',Inv X pins σ' H' s7/\tn i s7.heap/\(∀ b∈fp,H' b=none)/\W i m σ' H':=fun {iQ H7} I7 n7=>by
   obtain ⟨m',hm,w7⟩:=hN iQ H7 n7;refine ⟨m',hm,i+1,iQ,H7,I7.gZ,T.keep _ _ _ m9 fun b hb o e=>(I7.pin (b,o) (List.mem_append_right _ (List.mem_append_right _ (Wq hb e)))).1,fun b hb=>?_,w7⟩;obtain ⟨o,e,d⟩:=T.obj _ _ m9 b hb;exact (I7.pin (b,o) (List.mem_append_right _ (List.mem_append_right _ (Wq hb e)))).2.1
  cases f with
  | next=>obtain ⟨iQ,H7,I7,n7⟩:=q7;exact again I7 n7
  | cont=>obtain ⟨iQ,H7,I7,n7⟩:=q7;exact again I7 n7
  | brk=>obtain ⟨iQ,H7,I7,q7⟩:=q7;exact ⟨iQ,H7,I7.gZ,q7⟩
  | ret v=>obtain ⟨x7,iQ,H7,I7,r7,q7⟩:=q7;exact ⟨x7,iQ,H7,I7.gZ,r7,q7⟩
end
theorem DN {K:PySem.W.Frag} {a:Addr} {xs:List V} {g:TG} {tb:TS} {D:Ends} {σ:St} {H:Hp} (Pv:Nat->St->Hp->Prop) (h0:Pv 0 σ H) (hl:∀ i σ H,i<=xs.length->Pv i σ H->au K H a xs)
  (hs:∀ i x σ H,xs[i]?=some x->Pv i σ H->g x σ H fun σ2 H2=>tb { D with nx:=Pv (i+1),ct:=Pv (i+1),bk:=D.nx } σ2 H2) (hd:∀ σ H,Pv xs.length σ H->D.nx σ H) :
  ∃ W:Nat->Nat->St->Hp->Prop,(∃ m,W 0 m σ H)/\∀ i m σ H,W i m σ H ->
   ((m8 K a).stop i H/\D.nx σ H)\/((m8 K a).go i H/\∃ N:St->Hp->Prop,(∀ σ' H',N σ' H'->∃ m',m'<m/\W (i+1) m' σ' H')/\∀ x H',(m8 K a).jt i H x H'->g x σ H' fun σ2 H2=>tb { D with nx:=N,ct:=N,bk:=D.nx } σ2 H2):=by
 refine ⟨fun i m σ H=>m=xs.length - i/\i<=xs.length/\Pv i σ H,⟨xs.length,by simp,Nat.zero_le _,h0⟩,?_⟩;rintro i m σ H ⟨rfl,hi,p⟩;have q:=hl i σ H hi p;by_cases hlt:i<xs.length
 ·refine .inr ⟨⟨xs,xs[i],q,by simp [hlt]⟩,Pv (i+1),fun σ' H' p'=>⟨xs.length - (i+1),by omega,rfl,hlt,p'⟩,fun x H' y=>?_⟩
  obtain ⟨e,y⟩:=y;subst e;exact hs i x σ _ (y xs q) p
 ·have e:i=xs.length:=by omega
  subst e;exact .inl ⟨⟨xs,q,Nat.le_refl _⟩,hd σ H p⟩
theorem DP {lo:Int} {n:Nat} {g:TG} {tb:TS} {D:Ends} {σ:St} {H:Hp} (Pv:Nat->St->Hp->Prop) (h0:Pv 0 σ H)
  (hs:∀ i σ H,i<n->Pv i σ H->g (.int (lo+i)) σ H fun σ2 H2=>tb { D with nx:=Pv (i+1),ct:=Pv (i+1),bk:=D.nx } σ2 H2) (hd:∀ σ H,Pv n σ H->D.nx σ H) :
  ∃ W:Nat->Nat->St->Hp->Prop,(∃ m,W 0 m σ H)/\∀ i m σ H,W i m σ H ->
   ((j8 lo n).stop i H/\D.nx σ H)\/((j8 lo n).go i H/\∃ N:St->Hp->Prop,(∀ σ' H',N σ' H'->∃ m',m'<m/\W (i+1) m' σ' H')/\∀ x H',(j8 lo n).jt i H x H'->g x σ H' fun σ2 H2=>tb { D with nx:=N,ct:=N,bk:=D.nx } σ2 H2):=by
 refine ⟨fun i m σ H=>m=n - i/\i<=n/\Pv i σ H,⟨n,by simp,Nat.zero_le _,h0⟩,?_⟩;rintro i m σ H ⟨rfl,hi,p⟩;by_cases hlt:i<n
 ·refine .inr ⟨hlt,Pv (i+1),fun σ' H' p'=>⟨n - (i+1),by omega,rfl,hlt,p'⟩,fun x H' y=>?_⟩
  obtain ⟨e,y⟩:=y;subst e y;exact hs i σ _ hlt p
 ·have e:i=n:=by omega
  subst e;exact .inl ⟨Nat.le_refl _,hd σ H p⟩
abbrev R2:=V->V->Hp->VK->Prop
def cR (X:Cx) (f:Value->Value->Sem Value) (r:R2):Prop :=
 ∀ (pins:List (Addr×Obj)) (s:Shared) (σ:St) (H:Hp) (x y:V) (v u:Value) (Q:VK),Inv X pins σ H s->YC x v->YC y u->r x y H Q ->
  wpAny (model X.prog X.w) X.A (f v u) (EP X pins σ Q) X.xe s
def Xt (X:Cx) (f:Value) (r:List V->Hp->VK->Prop):Prop :=
 ∀ (pins:List (Addr×Obj)) (s:Shared) (σ:St) (H:Hp) (xs:List V) (us:List Value) (Q:VK),Inv X pins σ H s->Yu xs us->r xs H Q ->
  wpAny (model X.prog X.w) X.A (call f us) (EP X pins σ Q) X.xe s
def jG (r:R2) (ta tb:TE):TE:=fun σ H Q=>ta σ H fun x H1=>tb σ H1 fun y H2=>r x y H2 Q
def RB (r:V->Hp->VK->Prop) (ta:TE):TE:=fun σ H Q=>ta σ H fun x H1=>r x H1 Q
def rI (C:Int->Int->Prop) (g:Int->Int->V):R2:=fun x y H Q=>∃ i j,x = .int i/\y = .int j/\C i j/\Q (g i j) H
def j9 (g:Int->Int->V):R2:=fun x y H Q=>∃ i j,x = .int i/\y = .int j/\Q (g i j) H
def rU (g:Int->V):V->Hp->VK->Prop:=fun x H Q=>∃ i,x = .int i/\Q (g i) H
section
variable {X:Cx} {a b c:Expr} {ta tb tc:TE} {pos:Pos}
theorem qF (ha:PE X a ta) (hb:PE X b tb) {pins:List (Addr×Obj)} {s:Shared} {σ:St} {H:Hp} {R:V->V->Hp->Prop} (I:Inv X pins σ H s)
  (h:ta σ H fun x H1=>tb σ H1 fun y H2=>R x y H2) {Q:Value->Shared->Prop} {f:Value->Value->Sem Value}
  (hf:∀ v u s2 x y H2,Inv X pins σ H2 s2->YC x v->YC y u->R x y H2->wpAny (model X.prog X.w) X.A (f v u) Q X.xe s2) :
  wpAny (model X.prog X.w) X.A (eval a X.env) (fun v s₁=>wpAny (model X.prog X.w) X.A (eval b X.env) (fun u s₂=>wpAny (model X.prog X.w) X.A (f v u) Q X.xe s₂) X.xe s₁) X.xe s:=by
 refine aB (ha pins s σ H _ I h) fun v s1 ⟨x,H1,I1,r1,q1⟩=>?_
 refine aB (hb pins s1 σ H1 _ I1 q1) fun u s2 ⟨y,H2,I2,r2,q2⟩=>?_
 exact hf v u s2 x y H2 I2 r1 r2 q2
theorem Ym {op:Operator} {r:R2} (ho:cR X (binaryOp op) r) (ha:PE X a ta) (hb:PE X b tb):PE X (.BinOp a op b pos) (jG r ta tb):=by
 intro pins s σ H Q I h;exact wpAny_BinOp (qF ha hb I h fun v u s2 x y H2 I2 rx ry q=>ho pins s2 σ H2 x y v u Q I2 rx ry q)
theorem uR {f:Value->Value->Sem Value} {C:Int->Int->Prop} {g:Int->Int->Int}
  (rule:∀ (i j:Int) (t u:Tok) (s:Shared) (Q:Value->Shared->Prop) (E:Value->Shared->Prop),C i j->Q (.int (g i j) s.toks) { s with toks:=s.toks+1 }->wpAny (model X.prog X.w) X.A (f (.int i t) (.int j u)) Q E s) :
  cR X f (rI C fun i j => .int (g i j)):=by
 intro pins s σ H x y v u Q I rx ry h;obtain ⟨i,j,rfl,rfl,hc,q⟩:=h;obtain ⟨t,rfl⟩:=rx;obtain ⟨t',rfl⟩:=ry;exact rule i j t t' s _ _ hc ⟨.int (g i j),H,I.tok _,⟨_,rfl⟩,q⟩
theorem uT {f:Value->Value->Sem Value} {g:Int->Int->Int}
  (rule:∀ (i j:Int) (t u:Tok) (s:Shared) (Q:Value->Shared->Prop) (E:Value->Shared->Prop),Q (.int (g i j) s.toks) { s with toks:=s.toks+1 }->wpAny (model X.prog X.w) X.A (f (.int i t) (.int j u)) Q E s) :
  cR X f (j9 fun i j => .int (g i j)):=by
 intro pins s σ H x y v u Q I rx ry h;obtain ⟨i,j,rfl,rfl,q⟩:=h;obtain ⟨t,rfl⟩:=rx;obtain ⟨t',rfl⟩:=ry;exact rule i j t t' s _ _ ⟨.int (g i j),H,I.tok _,⟨_,rfl⟩,q⟩
theorem qG {f:Value->Value->Sem Value} {g:Int->Int->Bool}
  (rule:∀ (i j:Int) (t u:Tok) (s:Shared) (Q:Value->Shared->Prop) (E:Value->Shared->Prop),Q (.bool (g i j)) s->wpAny (model X.prog X.w) X.A (f (.int i t) (.int j u)) Q E s) :
  cR X f (j9 fun i j => .bl (g i j)):=by
 intro pins s σ H x y v u Q I rx ry h;obtain ⟨i,j,rfl,rfl,q⟩:=h;obtain ⟨t,rfl⟩:=rx;obtain ⟨t',rfl⟩:=ry;exact rule i j t t' s _ _ ⟨.bl (g i j),H,I,rfl,q⟩
def uU (i j:Int):Prop:=0<=j/\j<=1000000/\i.natAbs<2^64
theorem Ur:cR X (binaryOp .Add) (j9 fun i j => .int (i+j)):=uT fun _ _ _ _ _ _ _ q=>add_int q
theorem RD:cR X (binaryOp .Sub) (j9 fun i j => .int (i - j)):=uT fun _ _ _ _ _ _ _ q=>sub_int q
theorem Y2:cR X (binaryOp .Mod) (rI (fun _ j=>0<j) fun i j => .int (i%j)):=uR fun i j _ _ _ _ _ hc q=>by
 have h1:(0:Int)<j:=hc;exact mod_int' (by omega) (by rw [Int.fmod_eq_emod_of_nonneg i (by omega)];exact q)
theorem Us:cR X (binaryOp .Pow) (rI uU fun i j => .int (i^j.toNat)):=uR fun _ _ _ _ _ _ _ hc q=>pow_int_small hc.1 hc.2.1 hc.2.2 q
end
def rN:V->V->Bool
 | .non,.non=>true | .non,.int _=>true | .int _,.non=>true | .non,.bl _=>true | .bl _,.non=>true | .non,.str _=>true | .str _,.non=>true
 | .int _,.int _=>true | .bl _,.bl _=>true | .str _,.str _=>true | .jc _,.jc _=>true
 | .int _,.str _=>true | .str _,.int _=>true | .bl _,.str _=>true | .str _,.bl _=>true
 | _,_=>false
def ni:R2:=fun x y H Q=>rN x y=true/\Q (.bl (decide (x=y))) H
def DQ:R2:=fun x y H Q=>rN x y=true/\Q (.bl (!decide (x=y))) H
theorem DR {i j:Int}:decide (V.int i=V.int j)=(i==j):=by
 rw [Bool.eq_iff_iff];simp
theorem DW {i j:Bool}:decide (V.bl i=V.bl j)=(i==j):=by
 rw [Bool.eq_iff_iff];simp
theorem DX {i j:Str}:decide (V.str i=V.str j)=(i==j):=by
 rw [Bool.eq_iff_iff];simp
theorem DY {i j:Array UInt8}:decide (V.jc i=V.jc j)=(i.toList==j.toList):=by
 rw [Bool.eq_iff_iff]
 cases i
 cases j
 simp
section
variable {X:Cx} {a b c:Expr} {ta tb tc:TE} {pos:Pos}
theorem YL {pins:List (Addr×Obj)} {σ:St} {H:Hp} {s:Shared} {Q:VK} {k k':Bool} (I:Inv X pins σ H s) (q:Q (.bl k) H) (e:k=k'):EP X pins σ Q (.bool k') s:=by
 subst e;exact ⟨.bl k,H,I,rfl,q⟩
theorem YG:cR X (compareOp .Eq) ni:=by
 intro pins s σ H x y v u Q I rx ry h;obtain ⟨hs,q⟩:=h
 cases x with
 | non =>
  cases rx
  cases y with
  | non=>cases ry;exact PySem.EqNone.eq_none_none (YL I q (by simp))
  | bl j=>cases ry;exact PySem.EqNone.eq_none_bool (YL I q (by simp))
  | int j=>obtain ⟨t',rfl⟩:=ry;exact PySem.EqNone.eq_none_int (YL I q (by simp))
  | str j=>obtain ⟨t',rfl⟩:=ry;exact PySem.EqNone.eq_none_str (YL I q (by simp))
  | _=>exact absurd (show false=true from hs) Bool.false_ne_true
 | bl i =>
  cases rx
  cases y with
  | non=>cases ry;exact PySem.EqNone.eq_bool_none (YL I q (by simp))
  | bl j=>cases ry;exact eq_bool (YL I q DW)
  | str j=>obtain ⟨t',rfl⟩:=ry;exact PySem.EqMixed.eq_bool_str (YL I q (by simp))
  | _=>exact absurd (show false=true from hs) Bool.false_ne_true
 | int i =>
  obtain ⟨t,rfl⟩:=rx
  cases y with
  | non=>cases ry;exact PySem.EqNone.eq_int_none (YL I q (by simp))
  | int j=>obtain ⟨t',rfl⟩:=ry;exact eq_int (YL I q DR)
  | str j=>obtain ⟨t',rfl⟩:=ry;exact PySem.EqMixed.eq_int_str (YL I q (by simp))
  | _=>exact absurd (show false=true from hs) Bool.false_ne_true
 | str i =>
  obtain ⟨t,rfl⟩:=rx
  cases y with
  | non=>cases ry;exact PySem.EqNone.eq_str_none (YL I q (by simp))
  | bl j=>cases ry;exact PySem.EqMixed.eq_str_bool (YL I q (by simp))
  | int j=>obtain ⟨t',rfl⟩:=ry;exact PySem.EqMixed.eq_str_int (YL I q (by simp))
  | str j=>obtain ⟨t',rfl⟩:=ry;exact eq_str (YL I q DX)
  | _=>exact absurd (show false=true from hs) Bool.false_ne_true
 | jc i =>
  obtain ⟨t,rfl⟩:=rx
  cases y with
  | jc j=>obtain ⟨t',rfl⟩:=ry;exact W.eq_bytes (YL I q DY)
  | _=>exact absurd (show false=true from hs) Bool.false_ne_true
 | _=>cases y<;>exact absurd (show false=true from hs) Bool.false_ne_true
theorem UR:cR X (compareOp .NotEq) DQ:=by
 intro pins s σ H x y v u Q I rx ry h;obtain ⟨hs,q⟩:=h
 cases x with
 | non =>
  cases rx
  cases y with
  | non=>cases ry;exact PySem.EqNone.ne_none_none (YL I q (by simp))
  | bl j=>cases ry;exact PySem.EqNone.ne_none_bool (YL I q (by simp))
  | int j=>obtain ⟨t',rfl⟩:=ry;exact PySem.EqNone.ne_none_int (YL I q (by simp))
  | str j=>obtain ⟨t',rfl⟩:=ry;exact PySem.EqNone.ne_none_str (YL I q (by simp))
  | _=>exact absurd (show false=true from hs) Bool.false_ne_true
 | bl i =>
  cases rx
  cases y with
  | non=>cases ry;exact PySem.EqNone.ne_bool_none (YL I q (by simp))
  | bl j=>cases ry;exact ne_bool (YL I q (congrArg not DW))
  | str j=>obtain ⟨t',rfl⟩:=ry;exact PySem.EqMixed.ne_bool_str (YL I q (by simp))
  | _=>exact absurd (show false=true from hs) Bool.false_ne_true
 | int i =>
  obtain ⟨t,rfl⟩:=rx
  cases y with
  | non=>cases ry;exact PySem.EqNone.ne_int_none (YL I q (by simp))
  | int j=>obtain ⟨t',rfl⟩:=ry;exact ne_int (YL I q (congrArg not DR))
  | str j=>obtain ⟨t',rfl⟩:=ry;exact PySem.EqMixed.ne_int_str (YL I q (by simp))
  | _=>exact absurd (show false=true from hs) Bool.false_ne_true
 | str i =>
  obtain ⟨t,rfl⟩:=rx
  cases y with
  | non=>cases ry;exact PySem.EqNone.ne_str_none (YL I q (by simp))
  | bl j=>cases ry;exact PySem.EqMixed.ne_str_bool (YL I q (by simp))
  | int j=>obtain ⟨t',rfl⟩:=ry;exact PySem.EqMixed.ne_str_int (YL I q (by simp))
  | str j=>obtain ⟨t',rfl⟩:=ry;exact ne_str (YL I q (congrArg not DX))
  | _=>exact absurd (show false=true from hs) Bool.false_ne_true
 | jc i =>
  obtain ⟨t,rfl⟩:=rx
  cases y with
  | jc j=>obtain ⟨t',rfl⟩:=ry;exact W.ne_bytes (YL I q (congrArg not DY))
  | _=>exact absurd (show false=true from hs) Bool.false_ne_true
 | _=>cases y<;>exact absurd (show false=true from hs) Bool.false_ne_true
theorem US:cR X (compareOp .Lt) (j9 fun i j => .bl (decide (i<j))):=qG fun _ _ _ _ _ _ _ q=>lt_int q
theorem WT:cR X (compareOp .LtE) (j9 fun i j => .bl (decide (i<=j))):=qG fun _ _ _ _ _ _ _ q=>le_int q
theorem W8:cR X (compareOp .Gt) (j9 fun i j => .bl (decide (j<i))):=qG fun _ _ _ _ _ _ _ q=>gt_int q
theorem Ea:cR X (compareOp .Is) (fun x y H Q=>y = .non/\Q (.bl (decide (x = .non))) H):=by
 intro pins s σ H x y v u Q I rx ry h;obtain ⟨rfl,q⟩:=h
 cases ry
 refine is_none_gen (YL I q ?_)
 cases x<;>first
  | (cases rx;rfl)
  | (obtain ⟨t,rfl⟩:=rx;rfl)
theorem Eb:cR X (compareOp .IsNot) (fun x y H Q=>y = .non/\Q (.bl (!decide (x = .non))) H):=by
 intro pins s σ H x y v u Q I rx ry h;obtain ⟨rfl,q⟩:=h
 cases ry
 refine isnot_none_gen (YL I q ?_)
 cases x<;>first
  | (cases rx;rfl)
  | (obtain ⟨t,rfl⟩:=rx;rfl)
theorem Yl (b:Expr) {op:CmpOp} (h:op ≠ .In:=by decide) (h2:op ≠ .NotIn:=by decide):behindInMarks op b=false:=by
 have e1:(op==CmpOp.In)=false:=by cases op<;>first | rfl | exact absurd rfl h
 have e2:(op==CmpOp.NotIn)=false:=by cases op<;>first | rfl | exact absurd rfl h2
 cases b<;>simp [behindInMarks,e1,e2]
theorem XI {op:CmpOp} {r:R2} (ho:cR X (compareOp op) r) (ha:PE X a ta) (hb:PE X b tb) (hm:behindInMarks op b=false):PE X (.Compare a [op] [b] pos) (jG r ta tb):=by
 intro pins s σ H Q I h;exact wpAny_Compare1 (qF ha hb I h fun v u s2 x y H2 I2 rx ry q=>ho pins s2 σ H2 x y v u Q I2 rx ry q) hm
def V1 (t:TE):TT:=fun σ H Q=>t σ H fun x H'=>∃ k,x = .bl k/\Q k H'
theorem Yk {op:CmpOp} {r:R2} (ho:cR X (compareOp op) r) (ha:PE X a ta) (hb:PE X b tb) (hm:behindInMarks op b=false):PT X (.Compare a [op] [b] pos) (V1 (jG r ta tb)):=by
 intro pins s σ H Q I h;refine wpAny_isTrue_Compare1 (aB (ha pins s σ H _ I h) fun v s1 ⟨x,H1,I1,r1,q1⟩=>aB (hb pins s1 σ H1 _ I1 q1) fun u s2 ⟨y,H2,I2,r2,q2⟩ =>
  aB (ho pins s2 σ H2 x y v u _ I2 r1 r2 q2) fun c s3 ⟨z,H3,I3,r3,k,e,q3⟩=>?_) hm
 subst e
 cases r3
 exact wpAny_truthy_bool ⟨H3,I3,q3⟩
def uV (r r':R2) (ta tb tc:TE):TE:=fun σ H Q=>ta σ H fun x H1=>tb σ H1 fun y H2=>r x y H2 fun z H3=>∃ k,z = .bl k /\
 (if k=true then tc σ H3 fun w' H4=>r' y w' H4 Q else Q (.bl false) H3)
theorem V2 {op op':CmpOp} {r r':R2} (ho:cR X (compareOp op) r) (ho':cR X (compareOp op') r') (ha:PE X a ta) (hb:PE X b tb) (hc:PE X c tc)
  (hm:lastMarks [op,op'] [b,c]=false:=by with_unfolding_all rfl):PE X (.Compare a [op,op'] [b,c] pos) (uV r r' ta tb tc):=by
 intro pins s σ H Q I h;refine Compare_chain (aB (ha pins s σ H _ I h) fun v s1 ⟨x,H1,I1,r1,q1⟩=>chain_link (aB (hb pins s1 σ H1 _ I1 q1) fun u s2 ⟨y,H2,I2,r2,q2⟩ =>
  aB (ho pins s2 σ H2 x y v u _ I2 r1 r2 q2) fun d s3 ⟨z,H3,I3,r3,k,e,q3⟩=>?_)) hm
 subst e
 cases r3
 refine wpAny_truthy_bool ?_
 cases k with
 | false=>exact ite_ff ⟨.bl false,H3,I3,rfl,q3⟩
 | true=>exact ite_tt (chain_last (aB (hc pins s3 σ H3 _ I3 q3) fun w' s4 ⟨z',H4,I4,r4,q4⟩=>ho' pins s4 σ H4 y z' u w' Q I4 r2 r4 q4))
theorem V3 {op op':CmpOp} {r r':R2} (ho:cR X (compareOp op) r) (ho':cR X (compareOp op') r') (ha:PE X a ta) (hb:PE X b tb) (hc:PE X c tc)
  (hm:lastMarks [op,op'] [b,c]=false:=by with_unfolding_all rfl):PT X (.Compare a [op,op'] [b,c] pos) (V1 (uV r r' ta tb tc)):=by
 intro pins s σ H Q I h;refine isTrue_chain (aB (ha pins s σ H _ I h) fun v s1 ⟨x,H1,I1,r1,q1⟩=>test_link (aB (hb pins s1 σ H1 _ I1 q1) fun u s2 ⟨y,H2,I2,r2,q2⟩ =>
  aB (ho pins s2 σ H2 x y v u _ I2 r1 r2 q2) fun d s3 ⟨z,H3,I3,r3,k,e,q3⟩=>?_)) hm
 subst e
 cases r3
 refine wpAny_truthy_bool ?_
 cases k with
 | false =>
  obtain ⟨k',e',q'⟩:=q3
  cases e'
  exact ite_ff ⟨H3,I3,q'⟩
 | true =>
  refine ite_tt (test_last (aB (hc pins s3 σ H3 _ I3 q3) fun w' s4 ⟨z',H4,I4,r4,q4⟩=>aB (ho' pins s4 σ H4 y z' u w' _ I4 r2 r4 q4) fun d' s5 ⟨z2,H5,I5,r5,k2,e2,q5⟩=>?_));subst e2
  cases r5
  exact wpAny_truthy_bool ⟨H5,I5,q5⟩
theorem VP:(sizeLine:Nat)<2^63:=by rw [sizeLine_eq];decide
theorem Yn:cR X (binaryOp .Add) (fun x y H Q=>∃ i j,x = .str i/\y = .str j/\i.length+j.length<=sizeLine/\Q (.str (i++j)) H):=by
 intro pins s σ H x y v u Q I rx ry h;obtain ⟨i,j,rfl,rfl,hz,q⟩:=h;obtain ⟨t,rfl⟩:=rx;obtain ⟨t',rfl⟩:=ry;exact add_str (fun t' tk=>⟨.str (i++j),H,I.tok _,⟨_,rfl⟩,q⟩) hz
theorem XO {x:V} {us:List Value} (r:Yu [x] us):∃ u,us=[u]/\YC x u:=by
 cases r with
 | cons r1 r2=>cases r2;exact ⟨_,rfl,r1⟩
theorem rO {x y:V} {us:List Value} (r:Yu [x,y] us):∃ u w',us=[u,w']/\YC x u/\YC y w':=by
 cases r with
 | cons r1 r2 =>
  cases r2 with
  | cons r3 r4=>cases r4;exact ⟨_,_,rfl,r1,r3⟩
theorem RG (hc:X.calm=true):Xt X (.builtin "min") (fun xs H Q=>∃ i j,xs=[.int i,.int j]/\Q (.int (if j<i then j else i)) H):=by
 intro pins s σ H xs us Q I r h;obtain ⟨i,j,rfl,q⟩:=h;obtain ⟨u,w',rfl,⟨t,rfl⟩,⟨t',rfl⟩⟩:=rO r;refine min_two_ints (I.ok.hd hc) fun h' tk k=>⟨_,H,I.kept k,?_,q⟩
 by_cases hj:j<i
 ·rw [if_pos hj,if_pos hj];exact ⟨_,rfl⟩
 ·rw [if_neg hj,if_neg hj];exact ⟨_,rfl⟩
theorem RJ:Xt X (.type "int") (fun xs H Q=>(∃ i,xs=[.int i]/\Q (.int i) H)\/∃ k,xs=[.bl k]/\Q (.int (if k then 1 else 0)) H):=by
 intro pins s σ H xs us Q I r h;rcases h with ⟨i,rfl,q⟩ | ⟨k,rfl,q⟩
 ·obtain ⟨u,rfl,t,rfl⟩:=XO r
  exact call_int_int ⟨.int i,H,I,⟨_,rfl⟩,q⟩
 ·obtain ⟨u,rfl,r1⟩:=XO r
  cases r1
  exact call_int_bool ⟨.int (if k then 1 else 0),H,I.tok _,⟨_,rfl⟩,q⟩
theorem X1:Xt X (.type "str") (fun xs H Q=>∃ i,xs=[.int i]/\i.natAbs.log2<1920/\Q (.str (toString i)) H):=by
 intro pins s σ H xs us Q I r h;obtain ⟨i,rfl,hz,q⟩:=h;obtain ⟨u,rfl,t,rfl⟩:=XO r;exact PySem.P.str_of_int hz ⟨.str _,H,I.tok _,⟨_,rfl⟩,q⟩
end
structure jA (h:Heap) (x dx C:Addr) (mA:Str->Option Value):Prop where
 obj:h.get? x=some (W.instObj C dx)
 ns:h.Ns1 dx mA
 ne:dx≠x
theorem RK {h:Heap} {dx:Addr} {mA:Str->Option Value} (n:h.Ns1 dx mA):∃ od,h.get? dx=some od/\∀ name,W.lookIn name od=some (mA name):=by
 obtain ⟨o,es,ep,ho,hd,hk,_,hm⟩:=n;refine ⟨o,ho,fun name=>?_⟩;have e:=hm name;unfold nsFind findBy at e;rw [<- Array.find?_toList] at e
 unfold W.lookIn;rw [hd];dsimp only
 split
 ·rename_i y q
  rw [q] at e
  exact congrArg some e
 ·rename_i q
  rw [q] at e
  have a:es.toList.any (·.refKey)=false:=by
   rw [List.any_eq_false];intro y hy;obtain ⟨z,t,hkey⟩:=hk y (Array.mem_toList_iff.mp hy);simp [DictEntry.refKey,hkey]
  have a':¬ es.toList.any (·.refKey)=true:=by rw [a];exact Bool.false_ne_true
  rw [if_neg a'];exact congrArg some e
theorem jA.look {h:Heap} {x dx C:Addr} {mA:Str->Option Value} (I:jA h x dx C mA):∃ od,W.InstAt h x (W.instObj C dx) C (some od)/\∀ name,W.lookIn name od=some (mA name) :=
 let ⟨od,ho,hl⟩:=RK I.ns
 ⟨od,⟨I.obj,rfl,rfl,ho⟩,hl⟩
section
variable {prog:Program} {w:World} {A:Around} {E:Value->Shared->Prop} {s:Shared} {K:W.Frag} {x dx C f:Addr} {mA:Str->Option Value} {name:Str} {v:Value}
theorem RL {expr:Bool} {Q:Value->Shared->Prop} (X:K.In s.heap) (I:jA s.heap x dx C mA) (hg:W.plainGet K C name=true) (hh:W.hasDictIn K C=true)
  (ha:W.findIn K (.ref C) name=some none) (hv:mA name=some v) (hv':W.handedIn v=true) (h:Q v { s with toks:=s.toks+1 }) :
  wpAny (model prog w) A (getAttr (.ref x) name expr) Q E s:=by
 obtain ⟨od,J,hl⟩:=I.look;exact W.get_value X J (W.plainGet_of hg).1 (W.findObj_own hh ha rfl (by rw [hl,hv])) hv' h
theorem RM {pl:Sem Bool} {Q:Value×List Value->Shared->Prop} (X:K.In s.heap) (I:jA s.heap x dx C mA) (hg:W.plainGet K C name=true)
  (hf:W.findIn K (.ref C) name=some (some (.ref f))) (ht:W.isFn K (.ref f)=true) (hv:mA name=none) (h:Q (.ref f,[.ref x]) s) :
  wpAny (model prog w) A (getMethod (.ref x) name pl) Q E s:=by
 obtain ⟨od,J,hl⟩:=I.look;exact W.method_fn X J (W.plainGet_of hg).1 (W.plainGet_of hg).2 hf (beq_iff_eq.mp ht) (by show (W.lookIn name od).map (·.isSome)=some false;rw [hl,hv];rfl) h
theorem RN {ns:List Str} {Q:Unit->Shared->Prop} (X:K.In s.heap) (I:jA s.heap x dx C mA)
  (hs:W.findIn K (.ref C) "__setattr__"=some (some (.builtin "object.__setattr__"))) (hp:W.plainOver K C=true) (ht:W.takerIn K C name=some none) (hh:W.hasDictIn K C=true)
  (hw:PySem.Within mA ns) (hsz:ns.length<=sizeLine)
  (h:∀ h',jA h' x dx C (fun y=>if y=name then some v else mA y)->Heap.SameBut dx s.heap h'->Q () { s with heap:=h',toks:=s.toks+2 }) :
  wpAny (model prog w) A (setAttr (.ref x) name v) Q E s:=by
 obtain ⟨od,J,hl⟩:=I.look;refine W.set_plain X J hs (W.osa_open (s:={ s with toks:=s.toks+1 }) (r:=none) X J hp ht fun b=>?_);obtain ⟨cd,hc,hd'⟩:=W.any_some hh;have hx:s.heap.get? x=some ⟨.ref C,some dx,.plain,#[]⟩:=I.obj;refine wpAny_bind (wpAny_pure (wpAny_bind (wpAny_bind (wpAny_loadPart hx (wpAny_bind (W.Looks.here (s:={ s with toks:=s.toks+1 }) (W.looks_clsIn X hc) ?_))))));rw [hd'];refine wpAny_pure (a:=some dx) (wpAny_bind (wpAny_pure (wpAny_bind ?_)));refine wpAny_nsSet1 (s:={ s with toks:=s.toks+1 }) I.ns fun h' hn2 hs2=>?_
 obtain ⟨oD,esD,epD,hoD,hdD,hcD⟩:=hn2.count (PySem.Within.cons name v hw);refine wpAny_bind (wpAny_lookBehind hoD (by rw [hdD];exact pastItsLine_dict (Nat.le_trans hcD (by rw [List.length_cons];omega))) ?_);exact wpAny_pure (h _ ⟨(hs2.2 _ (Ne.symm I.ne)).trans I.obj,hn2,I.ne⟩ hs2)
theorem RP {R:Result->Shared->Prop} {vs:List Value} {kw:List (Str×Value)} (X:K.In s.heap) (hm:W.makesIn K C=true)
  (hi:W.findIn K (.ref C) "__init__"=some (some (.ref f))) (hf:W.typeIn K (.ref f)=some (.type "function"))
  (h:codeAny (model prog w) (A.under (.builtin "type.__call__" ⟨.ref C::vs,kw⟩)) (.call (.ref f) ⟨.ref (s.heap.objs.size+1)::vs,kw⟩) (W.InitBack (s.heap.objs.size+1) R)
   { s with heap:=(s.heap.push W.emptyDict).push (W.instObj C s.heap.objs.size) }) :
  codeAny (model prog w) A (.call (.ref C) ⟨vs,kw⟩) R s:=by
 obtain ⟨hh,g,d,t,os⟩:=s;exact W.make_core (W.makes_of X hm) (W.looks_findIn X hi) (fun self=>W.bind_fn X self hf) (.inl rfl) h
end
def Xp (f:Str) (v:V):List (Str×V)->List (Str×V)
 | []=>[(f,v)]
 | (g,x)::r=>if g=f then (g,v)::r else (g,x)::Xp f v r
theorem VI (f g:Str) (v:V):∀ fs:List (Str×V),(Xp f v fs).lookup g=if g=f then some v else fs.lookup g
 | []=>by
  show List.lookup g [(f,v)]=_
  by_cases h:g=f
  ·have hb:(g==f)=true:=beq_iff_eq.mpr h
   simp only [List.lookup,hb,if_pos h]
  ·have hb:(g==f)=false:=beq_eq_false_iff_ne.mpr h
   simp only [List.lookup,hb,if_neg h]
 | (k,x)::r=>by
  have ih:=VI f g v r;rw [show Xp f v ((k,x)::r)=(if k=f then (k,v)::r else (k,x)::Xp f v r) from rfl];by_cases hk:k=f
  ·rw [if_pos hk]
   by_cases h:g=k
   ·have hb:(g==k)=true:=beq_iff_eq.mpr h
    simp only [List.lookup,hb,if_pos (h.trans hk)]
   ·have hb:(g==k)=false:=beq_eq_false_iff_ne.mpr h
    simp only [List.lookup,hb,if_neg (fun e:g=f=>h (e.trans hk.symm))]
  ·rw [if_neg hk]
   by_cases h:g=k
   ·have hb:(g==k)=true:=beq_iff_eq.mpr h
    simp only [List.lookup,hb,if_neg (fun e:g=f=>hk (h.symm.trans e))]
   ·have hb:(g==k)=false:=beq_eq_false_iff_ne.mpr h
    simp only [List.lookup,hb];exact ih
theorem WW (f:Str) (v:V):∀ fs:List (Str×V),f∈(Xp f v fs).map (·.1)/\∀ g,g∈fs.map (·.1)->g∈(Xp f v fs).map (·.1)
 | []=>⟨by simp [Xp],fun g h=>by simp at h⟩
 | (k,x)::r=>by
  obtain ⟨i1,i2⟩:=WW f v r;rw [show Xp f v ((k,x)::r)=(if k=f then (k,v)::r else (k,x)::Xp f v r) from rfl];by_cases hk:k=f
  ·rw [if_pos hk]
   subst hk;exact ⟨by simp,fun g h=>by simpa using h⟩
  ·rw [if_neg hk]
   refine ⟨?_,fun g h=>?_⟩
   ·rw [List.map_cons]
    exact List.mem_cons_of_mem _ i1
   ·rw [List.map_cons] at h ⊢
    rcases List.mem_cons.mp h with e | e
    ·exact List.mem_cons.mpr (.inl e)
    ·exact List.mem_cons_of_mem _ (i2 g e)
theorem Qd (f:Str) (v:V):∀ fs:List (Str×V),(Xp f v fs).length<=fs.length+1
 | []=>by simp [Xp]
 | (k,x)::r=>by
  have ih:=Qd f v r;rw [show Xp f v ((k,x)::r)=(if k=f then (k,v)::r else (k,x)::Xp f v r) from rfl];by_cases hk:k=f
  ·rw [if_pos hk,List.length_cons,List.length_cons];omega
  ·rw [if_neg hk,List.length_cons,List.length_cons];omega
theorem XH.some_of {v:V} {o:Option Value} (r:XH (some v) o):∃ u,o=some u/\YC v u:=by
 cases o with
 | none=>exact (show False from r).elim
 | some u=>exact ⟨u,rfl,r⟩
theorem XH.none_of {o:Option Value} (r:XH none o):o=none:=by
 cases o with
 | none=>rfl
 | some u=>exact (show False from r).elim
theorem Ec {v:V} {u:Value} (r:YC v u):W.handedIn u=true:=by
 cases v with
 | non=>cases (show u=Value.none from r);rfl
 | bl b=>cases (show u=Value.bool b from r);rfl
 | int i=>obtain ⟨t,e⟩:=(show ∃ t,u=Value.int i t from r);cases e;rfl
 | str x=>obtain ⟨t,e⟩:=(show ∃ t,u=Value.str x t from r);cases e;rfl
 | jc b=>obtain ⟨t,e⟩:=(show ∃ t,u=Value.bytes b t from r);cases e;rfl
 | flt b=>obtain ⟨t,e⟩:=(show ∃ t,u=Value.float b t from r);cases e;rfl
 | ref a=>cases (show u=Value.ref a from r);rfl
 | ty n=>cases (show u=Value.type n from r);rfl
section
variable {P:Program} {w:World} {H H':Hp} {h h':Heap} {a C dx:Addr} {fs fs':List (Str×V)}
theorem UT (hok:cj P w H h) (e:H a=some (.ins C dx fs)):∃ mA,jA h a dx C mA/\(∀ f,XH (fs.lookup f) (mA f))/\PySem.Within mA (fs.map (·.1))/\fs.length<=1000/\H dx=some (.own a):=by
 obtain ⟨d,z,ne,ob,mA,n,r,q⟩:=(show YS P w H h a (.ins C dx fs) from hok a _ e);exact ⟨mA,⟨ob,n,ne⟩,r,q,z,d⟩
end
structure Cls (K:W.Frag) (C:Addr):Prop where
 pg:W.plainGet K C Str.empty=true
 hd:W.hasDictIn K C=true
 po:W.plainOver K C=true
 sa:W.findIn K (.ref C) "__setattr__"=some (some (.builtin "object.__setattr__"))
theorem Cls.get {K:W.Frag} {C:Addr} (c:Cls K C) (f:Str):W.plainGet K C f=true:=c.pg
def Xe (K:W.Frag) (C:Addr) (f:Str):Prop:=W.findIn K (.ref C) f=some none
theorem Xe.taker {K:W.Frag} {C:Addr} {f:Str} (n:Xe K C f):W.takerIn K C f=some none:=by
 unfold W.takerIn;rw [show W.findIn K (.ref C) f=some none from n];rfl
structure Meth (K:W.Frag) (C:Addr) (m:Str) (f:Addr):Prop where
 at_:W.findIn K (.ref C) m=some (some (.ref f))
 fn:W.isFn K (.ref f)=true
 kp:W.keepIn K (.ref f)=true
section
variable {X:Cx} {pins:List (Addr×Obj)} {σ:St} {H:Hp} {s:Shared} {a C dx:Addr} {fs:List (Str×V)} {f:Str} {v:V} {A:Around} {E:Value->Shared->Prop}
theorem Qu {b:Bool} {Q:Value->Shared->Prop} (I:Inv X pins σ H s) (e:H a=some (.ins C dx fs)) (c:Cls X.K C) (n:Xe X.K C f) (l:fs.lookup f=some v)
  (h:∀ u s',Inv X pins σ H s'->YC v u->Q u s'):wpAny (model X.prog X.w) A (getAttr (.ref a) f b) Q E s:=by
 obtain ⟨mA,O,r,_,_,_⟩:=UT I.hok e;obtain ⟨u,hu,ru⟩:=XH.some_of (v:=v) (o:=mA f) (by rw [<- l];exact r f);exact RL I.bF O (c.get f) c.hd n hu (Ec ru) (h u _ (I.tok _) ru)
theorem Qv {m:Str} {g:Addr} {pl:Sem Bool} {Q:Value×List Value->Shared->Prop} (I:Inv X pins σ H s) (e:H a=some (.ins C dx fs)) (c:Cls X.K C) (k:Meth X.K C m g) (l:fs.lookup m=none)
  (h:Q (.ref g,[.ref a]) s):wpAny (model X.prog X.w) A (getMethod (.ref a) m pl) Q E s:=by
 obtain ⟨mA,O,r,_,_,_⟩:=UT I.hok e;have hn:mA m=none:=XH.none_of (by rw [<- l];exact r m);exact RM I.bF O (c.get m) k.at_ k.fn hn h
theorem Qw {y:V} {u:Value} {Q:Unit->Shared->Prop} (I:Inv X pins σ H s) (e:H a=some (.ins C dx fs)) (c:Cls X.K C) (n:Xe X.K C f) (hl:fs.length<1000) (ry:YC y u)
  (h:∀ s',Inv X pins σ (upd H a (.ins C dx (Xp f y fs))) s'->Q () s'):wpAny (model X.prog X.w) A (setAttr (.ref a) f u) Q E s:=by
 obtain ⟨mA,O,r,wi,_,ho⟩:=UT I.hok e;have hz:(fs.map (·.1)).length<=sizeLine:=by rw [List.length_map,sizeLine_eq];omega
 refine RN I.bF O c.sa c.po n.taker c.hd wi hz fun h' O' sb=>h _ ?_
 have hd:∃ o,h'.get? dx=some o:=let ⟨o,_,_,e',_⟩:=O'.ns;⟨o,e'⟩
 refine I.write (x:=a) (e:=dx) (by rw [e];exact True.intro) (.inr ho) (fun b q hb z=>(sb.2 b hb).trans z) hd ?_;refine ⟨by rw [Yq O.ne];exact ho,?_,O.ne,O'.obj,_,O'.ns,fun g=>?_,fun g hg=>?_⟩
 ·have:=Qd f y fs;omega
 ·show XH ((Xp f y fs).lookup g) (if g=f then some u else mA g)
  rw [VI];by_cases q:g=f
  ·rw [if_pos q,if_pos q];exact ry
  ·rw [if_neg q,if_neg q];exact r g
 ·by_cases q:g=f
  ·rw [q];exact (WW f y fs).1
  ·refine (WW f y fs).2 g (wi g fun z=>hg ?_)
   show (if g=f then some u else mA g)=none
   rw [if_neg q];exact z
theorem Inv.made (I:Inv X pins σ H s):Inv X pins σ (upd (upd H s.heap.objs.size (.own (s.heap.objs.size+1))) (s.heap.objs.size+1) (.ins C s.heap.objs.size []))
  { s with heap:=(s.heap.push W.emptyDict).push (W.instObj C s.heap.objs.size) }:=by
 have e1:(s.heap.push W.emptyDict).get? s.heap.objs.size=some W.emptyDict:=Heap.get?_push_size s.heap rfl;have e2:((s.heap.push W.emptyDict).push (W.instObj C s.heap.objs.size)).get? (s.heap.objs.size+1)=some (W.instObj C s.heap.objs.size):=by
  have:=Heap.get?_push_size (s.heap.push W.emptyDict) (o:=W.instObj C s.heap.objs.size) rfl
  rwa [Heap.size_push] at this
 have e3:(s.heap.push W.emptyDict).Ns s.heap.objs.size (fun _=>none):=⟨W.emptyDict,#[],_,e1,rfl,(fun e he=>absurd he (by simp)),fun _=>rfl⟩;have I1:=I.laid (a:=s.heap.objs.size) (o := .own (s.heap.objs.size+1)) (h':=s.heap.push W.emptyDict) (t':=s.toks) (fun b u q=>Heap.get?_push_of_some _ q) (Nat.le_refl _) ⟨_,e1⟩;refine I1.laid (a:=s.heap.objs.size+1) (o := .ins C s.heap.objs.size []) (t':=s.toks) (fun b u q=>Heap.get?_push_of_some _ q) (Nat.le_of_eq (Heap.size_push _ _)) ?_;have ne:s.heap.objs.size≠s.heap.objs.size+1:=Nat.ne_of_lt (Nat.lt_succ_self _);refine ⟨by rw [Yq ne,Yf],Nat.zero_le _,ne,e2,fun _=>none,(Heap.Ns1.of_empty e3).at fun o q=>Heap.get?_push_of_some _ q,fun _=>True.intro,fun y hy=>absurd rfl hy⟩
theorem Ed {prog:Program} {w:World} {env:Env} {e:Expr} {f:Str} {pos:Pos} {s:Shared} {Q:Value->Shared->Prop} (hb:attributeBase e f env (eval e env)=eval e env)
  (h:wpAny (model prog w) A (eval e env) (fun o s₁=>wpAny (model prog w) A (getAttr o f true) Q E s₁) E s):wpAny (model prog w) A (eval (.Attribute e f pos) env) Q E s :=
 Attribute_any_ h (by rw [arm_eval_Attribute,hb])
end
def uW (K:W.Frag) (ta:TE) (f:Str):TE:=fun σ H Q=>ta σ H fun x H1=>∃ a C dx fs v,x = .ref a/\H1 a=some (.ins C dx fs)/\Cls K C/\Xe K C f/\fs.lookup f=some v/\Q v H1
def uX (K:W.Frag) (ta tv:TE) (f:Str):TS:=fun D σ H=>tv σ H fun y H1=>ta σ H1 fun x H2=>∃ a C dx fs,x = .ref a/\H2 a=some (.ins C dx fs)/\Cls K C/\Xe K C f/\fs.length<1000 /\
 D.nx σ (upd H2 a (.ins C dx (Xp f y fs)))
def uY (X:Cx) (op:Operator) (rd:V->V->Hp->VK->Prop):Prop :=
 ∀ (pins:List (Addr×Obj)) (s:Shared) (σ:St) (H:Hp) (x y:V) (u v:Value) (Q:VK),Inv X pins σ H s->YC x u->YC y v->rd x y H Q->wpAny (model X.prog X.w) X.A (inplaceOp op u v) (EP X pins σ Q) X.xe s
def RQ (K:W.Frag) (ta tv:TE) (rd:V->V->Hp->VK->Prop) (f:Str):TS:=fun D σ H=>ta σ H fun x H1=>∃ a C dx fs v,x = .ref a/\H1 a=some (.ins C dx fs)/\Cls K C/\Xe K C f/\fs.lookup f=some v /\
 tv σ H1 fun y H2=>rd v y H2 fun z H3=>∃ uZ fs',H3 a=some (.ins C uZ fs')/\fs'.length<1000/\D.nx σ (upd H3 a (.ins C uZ (Xp f z fs')))
section
variable {X:Cx} {o e value:Expr} {f:Str} {pos pos' tpos:Pos} {ta tv:TE}
theorem WX (he:PE X e ta) (hb:attributeBase e f X.env (eval e X.env)=eval e X.env):PE X (.Attribute e f pos) (uW X.K ta f):=by
 intro pins s σ H Q I h;refine Ed hb (aB (he pins s σ H _ I h) fun u s1 ⟨x,H1,I1,rx,a,C,dx,fs,v,ex,ea,c,n,l,q⟩=>?_);subst ex;obtain rfl:u=Value.ref a:=rx;exact Qu I1 ea c n l fun u' s2 I2 ru=>⟨v,H1,I2,ru,q⟩
theorem Ef (ha:PE X o ta) (hv:PE X value tv) (hs:swapsWith value (some (.Attribute o f pos')) pos.line X.env=pure false):PS X (.Assign [.Attribute o f pos'] value pos) (uX X.K ta tv f):=by
 intro pins s σ H D I h;refine plainObj_wpAny_Assign_Attribute (aB (hv pins s σ H _ I h) fun u s1 ⟨y,H1,I1,ry,q⟩=>aB (ha pins s1 σ H1 _ I1 q) fun ov s2 ⟨x,H2,I2,rx,a,C,dx,fs,ex,ea,c,n,l,q2⟩=>?_) hs;subst ex;obtain rfl:ov=Value.ref a:=rx;exact Qw I2 ea c n l ry fun s3 I3=>⟨σ,_,I3,q2⟩
theorem Eh {op:Operator} {rd:V->V->Hp->VK->Prop} (ha:PE X o ta) (hv:PE X value tv) (hop:uY X op rd):PS X (.AugAssign (.Attribute o f tpos) op value pos) (RQ X.K ta tv rd f):=by
 intro pins s σ H D I h;refine wpAny_AugAssign_AttributeAny (aB (ha pins s σ H _ I h) fun ov s1 ⟨x,H1,I1,rx,a,C,dx,fs,v,ex,ea,c,n,l,q⟩=>?_);subst ex;obtain rfl:ov=Value.ref a:=rx;refine Qu I1 ea c n l fun u s2 I2 ru=>aB (hv pins s2 σ H1 _ I2 q) fun w3 s3 ⟨y,H2,I3,ry,q3⟩=>aB (hop pins s3 σ H2 v y u w3 _ I3 ru ry q3) fun w4 s4 ⟨z,H3,I4,rz,uZ,fs',RT,l',q4⟩=>?_
 exact Qw I4 RT c n l' rz fun s5 I5=>⟨σ,_,I5,q4⟩
def Oi:V->V->Hp->VK->Prop:=fun x y H Q=>∃ i j,x = .int i/\y = .int j/\Q (.int (i+j)) H
theorem Yes:uY X .Add Oi:=by
 rintro pins s σ H x y u v Q I rx ry ⟨i,j,rfl,rfl,q⟩;obtain ⟨t,rfl⟩:=(show ∃ t,u=Value.int i t from rx);obtain ⟨t',rfl⟩:=(show ∃ t',v=Value.int j t' from ry);exact PyProof.Rows.iadd_int ⟨.int (i+j),H,I.tok _,⟨_,rfl⟩,q⟩
end
section
variable {X:Cx} {pins:List (Addr×Obj)} {σ:St} {H:Hp} {s:Shared} {A:Around} {E:Value->Shared->Prop} {Q:Value->Shared->Prop} {c:Value} {b:Bool}
inductive f9 (K:W.Frag) (H:Hp):V->Value->Prop where
 | non:f9 K H .non (.type "NoneType")
 | bl (x:Bool):f9 K H (.bl x) (.type "bool")
 | int (i:Int):f9 K H (.int i) (.type "int")
 | str (x:Str):f9 K H (.str x) (.type "str")
 | flt (x:UInt64):f9 K H (.flt x) (.type "float")
 | lst {a:Addr} {xs:List V} (e:H a=some (.lst xs)):f9 K H (.ref a) (.type "list")
 | gG {a:Addr} {o:Obj} {xs:List V} (e:H a=some (.gG o (.lst xs))):f9 K H (.ref a) (.type "list")
 | tup {a:Addr} {xs:List V} (e:H a=some (.tup xs)):f9 K H (.ref a) (.type "tuple")
 | dK {a:Addr} {kvs:List (Key×V)} (e:H a=some (.dK kvs)):f9 K H (.ref a) (.type "dict")
 | dT {a:Addr} {kvs:List (List Key×V)} (e:H a=some (.dT kvs)):f9 K H (.ref a) (.type "dict")
 | ins {a C dx:Addr} {fs:List (Str×V)} (e:H a=some (.ins C dx fs)) (cl:Cls K C) (ha:W.findIn K (.ref C) "__class__"=some (some (.builtin "object.__class__")))
   (hn:W.specialIn K (.builtin "object.__class__") "__get__"=some (some (.builtin "getset_descriptor.__get__"))) (htk:W.takesIn K (.builtin "object.__class__")=some true)
   (hm:W.mroIn K C (.type "object")=some true):f9 K H (.ref a) (.ref C)
theorem RV {x:V} {u t:Value} (I:Inv X pins σ H s) (rx:YC x u) (ty:f9 X.K H x t) (e:W.kitOne X.K t c=some b) (h:∀ tk,Q (.bool b) { s with toks:=tk }) :
  wpAny (model X.prog X.w) A (call (.builtin "isinstance") [u,c]) Q E s:=by
 cases ty with
 | non=>cases (show u=Value.none from rx);exact W.kia_one W.kitx_none I.bF True.intro e (fun z=>nomatch z) h
 | bl y=>cases (show u=Value.bool y from rx);exact W.kia_one W.kitx_bool I.bF True.intro e (fun z=>nomatch z) h
 | int i=>obtain ⟨t,q⟩:=(show ∃ t,u=Value.int i t from rx);cases q;exact W.kia_one W.kitx_int I.bF True.intro e (fun z=>nomatch z) h
 | str y=>obtain ⟨t,q⟩:=(show ∃ t,u=Value.str y t from rx);cases q;exact W.kia_one W.kitx_str I.bF True.intro e (fun z=>nomatch z) h
 | flt y=>obtain ⟨t,q⟩:=(show ∃ t,u=Value.float y t from rx);cases q;exact W.kia_one W.kitx_float I.bF True.intro e (fun z=>nomatch z) h
 | @lst a xs ea =>
  cases (show u=Value.ref a from rx)
  obtain ⟨_,_,n,_,h1⟩:=(show YS X.prog X.w H s.heap a (.lst xs) from I.hok a _ ea);exact W.kia_one W.kitx_list I.bF ⟨_,h1,rfl⟩ e (fun z=>nomatch z) h
 | @gG a ob xs ea =>
  cases (show u=Value.ref a from rx)
  obtain ⟨_,_,_,n,_,h1⟩:=(show YS X.prog X.w H s.heap a (.gG ob (.lst xs)) from I.hok a _ ea);exact W.kia_one W.kitx_list I.bF ⟨_,h1,rfl⟩ e (fun z=>nomatch z) h
 | @tup a xs ea =>
  cases (show u=Value.ref a from rx)
  obtain ⟨_,_,_,p⟩:=(show YS X.prog X.w H s.heap a (.tup xs) from I.hok a _ ea);obtain ⟨o,h1,h2,_⟩:=p;exact W.kia_one W.kitx_tuple I.bF ⟨o,h1,h2⟩ e (fun z=>nomatch z) h
 | @dK a kvs ea =>
  cases (show u=Value.ref a from rx)
  obtain ⟨_,_,vs,_,p⟩:=(show YS X.prog X.w H s.heap a (.dK kvs) from I.hok a _ ea);obtain ⟨o,es,ep,h1,h2,_⟩:=p;exact W.kia_one W.kitx_dict I.bF ⟨o,h1,h2.1⟩ e (fun z=>nomatch z) h
 | @dT a kvs ea =>
  cases (show u=Value.ref a from rx)
  obtain ⟨_,_,xs,_,o,es,ep,h1,h2,_⟩:=(show YS X.prog X.w H s.heap a (.dT kvs) from I.hok a _ ea);exact W.kia_one W.kitx_dict I.bF ⟨o,h1,h2.1⟩ e (fun z=>nomatch z) h
 | @ins a C dx fs ea cl ha hn htk hm =>
  cases (show u=Value.ref a from rx)
  obtain ⟨mA,O,_⟩:=UT I.hok ea;obtain ⟨od,J,_⟩:=O.look;exact W.kia_one (W.kitx_own (cl.get _) cl.hd ha hn htk hm) I.bF J e (fun z=>nomatch z) h
end
structure aR (k:Nat) (A:Around):Prop where
 hd:A.handled=none
 dp:A.depth+3*k+5<recursionLimit
 un:A.units+16*k+200<cLine
 gd:A.guards=some []
theorem aR.mono {j k:Nat} {A:Around} (r:aR k A) (h:j<=k):aR j A:=⟨r.hd,by have:=r.dp;omega,by have:=r.un;omega,r.gd⟩
theorem aR.deeper {k:Nat} {A:Around} (r:aR (k+1) A) (env:Env):aR k (A.deeper env) :=
 ⟨r.hd,by have:=r.dp;show A.depth+1+3*k+5<_;omega,by have:=r.un;show A.units+3+16*k+200<_;omega,r.gd⟩
theorem RW {A:Around} {C:Addr} {us:List Value} {kw:List (Str×Value)}:(A.under (.builtin "type.__call__" ⟨.ref C::us,kw⟩)).depth=A.depth+1:=by
 first | rfl | simp [Around.under,Code.weight,Code.isCreation,Code.isGuard,Code.isCaller,Code.frames,Code.isFrame,guardIds]
theorem RX {A:Around} {C:Addr} {us:List Value} {kw:List (Str×Value)}:(A.under (.builtin "type.__call__" ⟨.ref C::us,kw⟩)).units=A.units+1:=by
 first | rfl | simp [Around.under,Code.cUnits,Code.frames,Code.isFrame]
theorem aR.make {k:Nat} {A:Around} (r:aR (k+1) A) (C:Addr) (us:List Value) (kw:List (Str×Value)):aR k (A.under (.builtin "type.__call__" ⟨.ref C::us,kw⟩)) :=
 ⟨r.hd,by have:=r.dp;rw [RW];omega,by have:=r.un;rw [RX];omega,by first | exact r.gd | simpa [Around.under,Code.isGuard,Code.isFrame,guardIds] using r.gd⟩
theorem aR.depth {k:Nat} {A:Around} (r:aR k A):A.depth<recursionLimit:=by have:=r.dp;omega
theorem aR.units {k:Nat} {A:Around} (r:aR k A):A.units+64<cLine:=by have:=r.un;omega
def QY:TA:=fun _ H Q=>Q [] H
def rP (ta:TE) (tr:TA):TA:=fun σ H Q=>ta σ H fun x H1=>tr σ H1 fun xs H2=>Q (x::xs) H2
section
variable {X:Cx} {e:Expr} {es:List Expr} {te:TE} {t:TA} {pos:Pos}
theorem Yb:PA X [] QY:=fun _ _ _ _ H Q I h=>Calls.spliced_nil ⟨[],H,I,.nil,h⟩
theorem Ya (ha:PE X e te) (hr:PA X es t) (hs:starEach (e::es) X.env=(false,eval e X.env)::starEach es X.env:=by rfl):PA X (e::es) (rP te t):=by
 intro pos pins s σ H Q I h;rw [hs]
 show wpAny _ _ (spliced ((false,eval e X.env)::backTo pos (starEach es X.env))) _ _ s
 refine Calls.spliced_cons (aB (ha pins s σ H _ I h) fun u s1 ⟨x,H1,I1,r1,q1⟩=>?_);exact aB (hr pos pins s1 σ H1 _ I1 q1) fun us s2 ⟨xs,H2,I2,r2,q2⟩=>⟨x::xs,H2,I2,.cons r1 r2,q2⟩
def u0 (t:TA):TE:=fun σ H Q=>t σ H fun xs H1=>xs.length<=sizeLine/\∀ p,H1 p=none->Q (.ref p) (upd H1 p (.tup xs))
def u5 (t:TA):TE:=fun σ H Q=>t σ H fun xs H1=>xs.length<=sizeLine/\∀ p,H1 p=none->Q (.ref p) (upd H1 p (.lst xs))
theorem XJ {x1} (h:PA X es t):PE X (.Tuple es x1 pos) (u0 t):=by
 intro pins s σ H Q I hq;refine wpAny_Tuple_spliced (aB (h pos pins s σ H _ I hq) fun us s1 ⟨xs,H1,I1,r,z,q⟩=>⟨by rw [<- r.length];exact z,?_⟩);have hf:H1 s1.heap.objs.size=none:=I1.hok.fresh (Nat.le_refl _);refine ⟨.ref s1.heap.objs.size,upd H1 s1.heap.objs.size (.tup xs),I1.laid (t':=s1.toks) (fun b u e=>Heap.get?_push_of_some _ e) (Nat.le_refl _) ?_,rfl,q _ hf⟩;exact ⟨z,us,r,⟨_,Heap.get?_push_size _ rfl,rfl,_,rfl⟩⟩
theorem Xb (h:PA X es t):PE X (.List es pos) (u5 t):=by
 intro pins s σ H Q I hq;refine wpAny_List_spliced (aB (h pos pins s σ H _ I hq) fun us s1 ⟨xs,H1,I1,r,z,q⟩=>⟨by rw [<- r.length];exact z,?_⟩);have hf:H1 s1.heap.objs.size=none:=I1.hok.fresh (Nat.le_refl _);refine ⟨.ref s1.heap.objs.size,upd H1 s1.heap.objs.size (.lst xs),I1.laid (t':=s1.toks) (fun b u e=>Heap.get?_push_of_some _ e) (Nat.le_refl _) ?_,rfl,q _ hf⟩;exact ⟨z,us,0,r,Heap.get?_push_size _ rfl⟩
end
abbrev Sp:=List V->Hp->VK->XK->Prop
abbrev gP:=List Env->Hp->Shared->XK->Value->Shared->Prop
structure jB (P:Program) (w:World) (K:W.Frag) (mg:Str->Option Value) (base:Heap) (A:Around) (outer:List Env) (s:Shared) (H:Hp):Prop where
 frames:A.frames=some outer
 mod:Mod K mg base
 bs:∀ b o,base.get? b=some o->s.heap.get? b=some o/\H b=none
 jf:base.objs.size<=s.heap.objs.size
 fB:s.heap.FunFrames base outer
 jF:∀ b∈frs outer,H b=none
 hok:cj P w H s.heap
 bare:AllBare s.gens
def CE (outer:List Env) (P:Program) (w:World) (H:Hp) (s:Shared) (Q:VK) (u:Value) (s':Shared):Prop :=
 ∃ v H',s'.os=s.os/\AllBare s'.gens/\Un (frs outer) [] H H' s.heap s'.heap/\cj P w H' s'.heap/\YC v u/\Q v H'
def CR (CX:gP) (outer:List Env) (P:Program) (w:World) (H:Hp) (s:Shared) (Q:VK) (E:XK) (r:Result) (s':Shared):Prop :=
 match r with
 | .ok (.ret u)=>CE outer P w H s Q u s'
 | .ok _=>False
 | .error e=>CX outer H s E e s'
structure dZ (P:Program) (w:World) (K:W.Frag) (mg:Str->Option Value) (base:Heap) (CX:gP) (k:Nat) (f:Addr) (fd:FuncData) (ps:List Str) (sp:Sp):Prop where
 len:∀ vs H Q E,sp vs H Q E->vs.length=ps.length
 run:∀ (A:Around) (outer:List Env) (s:Shared) (H:Hp) (args:Args) (us:List Value) (vs:List V) (Q:VK) (E:XK),aR k A->jB P w K mg base A outer s H->BindsTo s fd args (ps.zip us)->Yu vs us->sp vs H Q E ->
  codeAny (model P w) A (.call (.ref f) args) (CR CX outer P w H s Q E) s
theorem dZ.mono {P:Program} {w:World} {K:PySem.W.Frag} {mg:Str->Option Value} {base:Heap} {CX:gP} {j k:Nat} {f:Addr} {fd:FuncData} {ps:List Str} {sp:Sp} (F:dZ P w K mg base CX j f fd ps sp) (h:j<=k) :
  dZ P w K mg base CX k f fd ps sp:=⟨F.len,fun A outer s H args us vs Q E hr=>F.run A outer s H args us vs Q E (hr.mono h)⟩
theorem jB.make {P:Program} {w:World} {K:W.Frag} {mg:Str->Option Value} {base:Heap} {A:Around} {outer:List Env} {s:Shared} {H:Hp} (e:jB P w K mg base A outer s H) (C:Addr) (us:List Value) (kw:List (Str×Value)) :
  jB P w K mg base (A.under (.builtin "type.__call__" ⟨.ref C::us,kw⟩)) outer s H:=⟨by first | exact e.frames | (simpa [Around.under,Code.envs,Code.isFrame,pushEnvs] using e.frames),e.mod,e.bs,e.jf,e.fB,e.jF,e.hok,e.bare⟩
section
variable {X:Cx} {pins:List (Addr×Obj)} {σ:St} {H:Hp} {s s':Shared}
theorem Inv.env0 (I:Inv X pins σ H s):jB X.prog X.w X.K X.mg X.base X.A X.stack s H :=
 ⟨I.ok.frames,I.ok.mod,I.bs,Nat.le_trans I.ok.jf I.sz,I.stack,I.gY,I.hok,I.bare⟩
theorem Inv.after {Q:VK} {u:Value} (I:Inv X pins σ H s) (h:CE X.stack X.prog X.w H s Q u s'):EP X pins σ Q u s':=by
 obtain ⟨v,H',os,bare,un,hok,r,q⟩:=h;obtain ⟨hh,g,d,t,os'⟩:=s';obtain rfl:os'=s.os:=os;exact ⟨v,H',I.call (h':=hh) (g':=g) (d':=d) (t':=t) (ch:=[]) un hok bare (fun b z=>absurd z (by simp)),r,q⟩
end
def rQ (sp:Sp) (dF:List V) (E:XK) (t:TA):TE:=fun σ H Q=>t σ H fun vs H1=>sp (vs++dF) H1 Q E
def UU (C:Addr) (m:Str) (sp:Sp) (dF:List V) (E:XK) (ta:TE) (t:TA):TE:=fun σ H Q=>ta σ H fun x H1=>∃ a dx fs,x = .ref a/\H1 a=some (.ins C dx fs)/\fs.lookup m=none /\
 t σ H1 fun vs H2=>sp (x::(vs++dF)) H2 Q E
def vd (C:Addr) (sp:Sp) (dF:List V) (E:XK) (t:TA):TE:=fun σ H Q=>t σ H fun vs H1=>∀ x dx,H1 x=none->H1 dx=none->dx≠x ->
 sp (.ref x::(vs++dF)) (upd (upd H1 dx (.own x)) x (.ins C dx [])) (fun v H2=>v = .non/\Q (.ref x) H2) E
def Xn (K:W.Frag) (fd:FuncData) (ps:List Str) (ds:List Value):Prop :=
 ∀ (s:Shared) (us:List Value),K.In s.heap->(us++ds).length=ps.length->BindsTo s fd ⟨us,[]⟩ (ps.zip (us++ds))
theorem Xn.all {K:W.Frag} {fd:FuncData} {ps:List Str} (h:∀ us:List Value,us.length=ps.length->bindArgs fd ⟨us,[]⟩=pure (ps.zip us)):Xn K fd ps []:=fun s us _ hl=>by
 rw [List.append_nil] at hl ⊢
 exact .of_eq (h us hl)
def XL (CX:gP) (X:Cx) (E:XK):Prop:=∀ (pins:List (Addr×Obj)) (σ:St) (H:Hp) (s:Shared) (e:Value) (s':Shared),Inv X pins σ H s->CX X.stack H s E e s'->X.xe e s'
section
variable {X:Cx} {CX:gP} {k:Nat} {f C:Addr} {fd:FuncData} {ps:List Str} {sp:Sp} {dF:List V} {ds:List Value} {E:XK} {x m:Str} {p pos apos:Pos} {e o:Expr} {es:List Expr} {ta:TE} {t:TA}
theorem vf {pins:List (Addr×Obj)} {σ:St} {H:Hp} {s:Shared} {Q:VK} {us:List Value} {vs:List V} (F:dZ X.prog X.w X.K X.mg X.base CX k f fd ps sp) (hr:aR k X.A) (hb:Xn X.K fd ps ds) (hd:Yu dF ds) (hx:XL CX X E)
  (I:Inv X pins σ H s) (r:Yu vs us) (h:sp (vs++dF) H Q E):wpAny (model X.prog X.w) X.A (call (.ref f) us) (EP X pins σ Q) X.xe s:=by
 have r2:Yu (vs++dF) (us++ds):=r.append hd;have hl:(us++ds).length=ps.length:=by rw [<- r2.length];exact F.len _ _ _ _ h
 refine wpAny_call (codeAny_mono (F.run X.A X.stack s H ⟨us,[]⟩ (us++ds) (vs++dF) Q E hr I.env0 (hb s us I.bF hl) r2 h) fun r s' hq=>?_)
 cases r with
 | error e=>exact hx pins σ H s e s' I hq
 | ok fl =>
  cases fl with
  | ret u=>exact I.after hq
  | next=>exact False.elim hq
  | brk=>exact False.elim hq
  | cont=>exact False.elim hq
theorem Ei (F:dZ X.prog X.w X.K X.mg X.base CX k f fd ps sp) (hr:aR k X.A) (hg:Gl X x) (hm:X.mg x=some (.ref f)) (hk:PySem.W.keepIn X.K (.ref f)=true) (hb:Xn X.K fd ps ds) (hd:Yu dF ds) (hx:XL CX X E)
  (ha:PA X (e::es) t) (hdb:(x==("__debug__":Str))=false:=by decide) (he:starEach (e::es) X.env=(false,eval e X.env)::starEach es X.env:=by rfl) (hpl:(backTo pos (starEach es X.env)).any (·.1)=false:=by rfl) :
  PE X (.Call (.Name x p) (e::es) [] pos) (rQ sp dF E t):=by
 intro pins s σ H Q I h;refine wpAny_Call_Name_kw (WG I hg hm ?_ hdb);refine PySem.W.callWith_K (h₀:=X.base) I.ok.mod.j6 hk (aB (ha pos pins s σ H _ I h) fun us s1 ⟨vs,H1,I1,r,q⟩=>⟨I1.bF,?_⟩) he hpl;exact vf F hr hb hd hx I1 r q
theorem RZ {pl:Sem Bool} (he:PE X o ta) (c:Cls X.K C) (hm:Meth X.K C m f) (F:dZ X.prog X.w X.K X.mg X.base CX k f fd ps sp) (hr:aR k X.A) (hb:Xn X.K fd ps ds) (hd:Yu dF ds) (hx:XL CX X E) (ha:PA X (e::es) t)
  (hst:starEach (e::es) X.env=(false,eval e X.env)::starEach es X.env:=by rfl) (hpl:(backTo pos (starEach es X.env)).any (·.1)=false:=by rfl)
  (ht:eval (.Call (.Attribute o m apos) (e::es) [] pos) X.env=(do
   let ov <- eval o X.env
   standAt apos.atName
   let (f,first) <- holding [ov] (getMethod ov m pl)
   callWith pos f first (backTo pos (starEach (e::es) X.env)) (backToKw pos (keywordEach [] X.env))):=by rfl) :
  PE X (.Call (.Attribute o m apos) (e::es) [] pos) (UU C m sp dF E ta t):=by
 intro pins s σ H Q I h;refine PySem.W.methodCall_KW (pl:=pl) (aB (he pins s σ H _ I h) fun u s1 ⟨x,H1,I1,rx,a,dx,fs,ex,ea,l,q⟩=>?_) ht;subst ex;obtain rfl:u=Value.ref a:=rx;refine Qv I1 ea c hm l ?_;refine PySem.W.callWith_K (first:=[.ref a]) (h₀:=X.base) I.ok.mod.j6 hm.kp (aB (ha pos pins s1 σ H1 _ I1 q) fun us s2 ⟨vs,H2,I2,r,q2⟩=>⟨I2.bF,?_⟩) hst hpl;exact vf (us := .ref a::us) (vs := .ref a::vs) F hr hb hd hx I2 (.cons rfl r) q2
theorem Ej {pl:Sem Bool} (he:PE X o ta) (c:Cls X.K C) (hm:Meth X.K C m f) (F:dZ X.prog X.w X.K X.mg X.base CX k f fd ps sp) (hr:aR k X.A) (hb:Xn X.K fd ps ds) (hd:Yu dF ds) (hx:XL CX X E)
  (ht:eval (.Call (.Attribute o m apos) [] [] pos) X.env=(do
   let ov <- eval o X.env
   standAt apos.atName
   let (f,first) <- holding [ov] (getMethod ov m pl)
   callWith pos f first (backTo pos (starEach [] X.env)) (backToKw pos (keywordEach [] X.env))):=by rfl) :
  PE X (.Call (.Attribute o m apos) [] [] pos) (UU C m sp dF E ta QY):=by
 intro pins s σ H Q I h;refine PySem.W.methodCall_KW (pl:=pl) (aB (he pins s σ H _ I h) fun u s1 ⟨x,H1,I1,rx,a,dx,fs,ex,ea,l,q⟩=>?_) ht;subst ex;obtain rfl:u=Value.ref a:=rx;refine Qv I1 ea c hm l ?_;exact PySem.W.callWith_K0 (first:=[.ref a]) I1.bF hm.kp (vf (us:=[.ref a]) (vs:=[.ref a]) F hr hb hd hx I1 (.cons rfl .nil) q)
structure Mk (K:W.Frag) (C f:Addr):Prop where
 makes:W.makesIn K C=true
 init:W.findIn K (.ref C) "__init__"=some (some (.ref f))
 fn:W.isFn K (.ref f)=true
 kp:W.keepIn K (.ref C)=true
theorem R0 {pins:List (Addr×Obj)} {σ:St} {H:Hp} {s:Shared} {Q:VK} {us:List Value} {vs:List V} (M:Mk X.K C f) (F:dZ X.prog X.w X.K X.mg X.base CX k f fd ps sp) (hr:aR (k+1) X.A) (hb:Xn X.K fd ps ds) (hd:Yu dF ds)
  (hx:XL CX X E) (I:Inv X pins σ H s) (r:Yu vs us)
  (h:∀ x dx,H x=none->H dx=none->dx≠x->sp (.ref x::(vs++dF)) (upd (upd H dx (.own x)) x (.ins C dx [])) (fun v H2=>v = .non/\Q (.ref x) H2) E) :
  wpAny (model X.prog X.w) X.A (call (.ref C) us) (EP X pins σ Q) X.xe s:=by
 have hq:=h (s.heap.objs.size+1) s.heap.objs.size (I.hok.fresh (Nat.le_succ _)) (I.hok.fresh (Nat.le_refl _)) (Nat.ne_of_lt (Nat.lt_succ_self _));have I2:=Inv.made (C:=C) I;have r2:Yu (V.ref (s.heap.objs.size+1)::(vs++dF)) (Value.ref (s.heap.objs.size+1)::(us++ds)) := .cons rfl (r.append hd);have hl:(Value.ref (s.heap.objs.size+1)::us++ds).length=ps.length:=by
  have e:=r2.length;rw [F.len _ _ _ _ hq] at e
  exact e.symm
 refine wpAny_call (RP (f:=f) I.bF M.makes M.init (beq_iff_eq.mp M.fn) (codeAny_mono (F.run _ X.stack _ _ ⟨Value.ref (s.heap.objs.size+1)::us,[]⟩ (Value.ref (s.heap.objs.size+1)::(us++ds)) _ _ E (hr.make C us [])
  (I2.env0.make C us []) (hb _ (Value.ref (s.heap.objs.size+1)::us) I2.bF hl) r2 hq) fun r s' hq'=>?_))
 cases r with
 | error e=>exact hx pins σ _ _ e s' I2 hq'
 | ok fl =>
  cases fl with
  | ret u =>
   obtain ⟨v,H',I3,rv,ev,q3⟩:=I2.after hq';subst ev;exact ⟨rv,⟨V.ref (s.heap.objs.size+1),H',I3,rfl,q3⟩⟩
  | next=>exact False.elim hq'
  | brk=>exact False.elim hq'
  | cont=>exact False.elim hq'
theorem R4 (M:Mk X.K C f) (F:dZ X.prog X.w X.K X.mg X.base CX k f fd ps sp) (hr:aR (k+1) X.A) (hg:Gl X x) (hm:X.mg x=some (.ref C)) (hb:Xn X.K fd ps ds) (hd:Yu dF ds) (hx:XL CX X E)
  (ha:PA X (e::es) t) (hdb:(x==("__debug__":Str))=false:=by decide) (he:starEach (e::es) X.env=(false,eval e X.env)::starEach es X.env:=by rfl) (hpl:(backTo pos (starEach es X.env)).any (·.1)=false:=by rfl) :
  PE X (.Call (.Name x p) (e::es) [] pos) (vd C sp dF E t):=by
 intro pins s σ H Q I h;refine wpAny_Call_Name_kw (WG I hg hm ?_ hdb);refine PySem.W.callWith_K (h₀:=X.base) I.ok.mod.j6 M.kp (aB (ha pos pins s σ H _ I h) fun us s1 ⟨vs,H1,I1,r,q⟩=>⟨I1.bF,?_⟩) he hpl;exact R0 M F hr hb hd hx I1 r q
end
structure aq (N P:List Str) (sc:Scope):Prop where
 kind:sc.kind = .function
 co:sc.isCoroutine=false
 gen:sc.isGenerator=false
 nd:N.Nodup
 pre:N.take P.length=P
 par:∀ x∈P,sc.names.lookup x=some .local\/sc.names.lookup x=some .cell
 vg:∀ y∈sc.names,y.2 ≠ .free
theorem Ek {kindOf:Str->Option NameKind} {x:Str}:∀ {binds:List (Str×Value)} {m:Str->Option Value},(∀ v,(x,v)∉binds)->bindL kindOf binds m x=m x
 | [],_,_=>rfl
 | (n,v)::r,m,h=>by
  unfold bindL;rw [Ek fun w hw=>h w (List.mem_cons_of_mem _ hw)]
  split
  ·have:x≠n:=by rintro rfl;exact h v List.mem_cons_self
   simp [this]
  ·rfl
theorem El {kindOf:Str->Option NameKind} {x:Str}:∀ {binds:List (Str×Value)} {m:Str->Option Value},(∀ v,(x,v)∉binds)->bindC kindOf binds m x=m x
 | [],_,_=>rfl
 | (n,v)::r,m,h=>by
  unfold bindC;rw [El fun w hw=>h w (List.mem_cons_of_mem _ hw)]
  split
  ·rfl
  ·have:x≠n:=by rintro rfl;exact h v List.mem_cons_self
   simp [this]
theorem Em {kindOf:Str->Option NameKind} {x:Str} {v:Value}:∀ {P:List Str} {vs:List Value} {i:Nat} {m:Str->Option Value},P.Nodup->P[i]?=some x->vs[i]?=some v->kindOf x=some .local ->
  bindL kindOf (P.zip vs) m x=some v
 | [],_,_,_,_,h,_,_=>by simp at h
 | _::_,[],_,_,_,_,h,_=>by simp at h
 | p::P,w::vs,0,m,nd,h1,h2,hk=>by
  simp at h1 h2;subst h1;subst h2
  show bindL kindOf ((p,w)::P.zip vs) m p=_
  unfold bindL;rw [Ek fun v hv=>(List.nodup_cons.mp nd).1 (List.of_mem_zip hv).1,if_pos hk];simp
 | p::P,w::vs,i+1,m,nd,h1,h2,hk=>by
  show bindL kindOf ((p,w)::P.zip vs) m x=_
  unfold bindL;exact Em (i:=i) (List.nodup_cons.mp nd).2 (by simpa using h1) (by simpa using h2) hk
theorem En {kindOf:Str->Option NameKind} {x:Str} {v:Value}:∀ {P:List Str} {vs:List Value} {i:Nat} {m:Str->Option Value},P.Nodup->P[i]?=some x->vs[i]?=some v->kindOf x≠some .local ->
  bindC kindOf (P.zip vs) m x=some v
 | [],_,_,_,_,h,_,_=>by simp at h
 | _::_,[],_,_,_,_,h,_=>by simp at h
 | p::P,w::vs,0,m,nd,h1,h2,hk=>by
  simp at h1 h2;subst h1;subst h2
  show bindC kindOf ((p,w)::P.zip vs) m p=_
  unfold bindC;rw [El fun v hv=>(List.nodup_cons.mp nd).1 (List.of_mem_zip hv).1,if_neg hk];simp
 | p::P,w::vs,i+1,m,nd,h1,h2,hk=>by
  show bindC kindOf ((p,w)::P.zip vs) m x=_
  unfold bindC;exact En (i:=i) (List.nodup_cons.mp nd).2 (by simpa using h1) (by simpa using h2) hk
def Wc (N:List Str) (vs:List V):St:=vs.map some++List.replicate (N.length - vs.length) none
def VJ (CX:gP) (P:Program) (w:World) (K:W.Frag) (mg:Str->Option Value) (base:Heap) (N:List Str) (qual:Str) (scope:Scope) (f:Addr) (cd:Value) (A:Around) (outer:List Env) (s:Shared) (H:Hp) (E:XK):Cx where
 prog:=P
 w:=w
 K:=K
 mg:=mg
 base:=base
 A:=A.deeper (envOfC qual scope s.heap.objs.size f cd)
 N:=N
 s₀:=s
 H₀:=H
 env:=envOfC qual scope s.heap.objs.size f cd
 outer:=outer
 stack:=envOfC qual scope s.heap.objs.size f cd::outer
 ex:=[]
 calm:=true
 fn:=fun _=>true
 pn:=[]
 xe:=fun e s'=>wpAny (model P w) (A.deeper (envOfC qual scope s.heap.objs.size f cd)) (leaving (envOfC qual scope s.heap.objs.size f cd) e) (fun _ s''=>CX outer H s E e s'') (fun e' s''=>CX outer H s E e' s'') s'
theorem Eo {sc:Scope} {n:Nat} {x:Str} (h:sc.names.lookup x=some .cell):∃ c,(cellsFrom n sc.names []).lookup x=some c:=by
 have q:=W.cellsFrom_some sc.names n [] (.inl h);exact Option.isSome_iff_exists.mp q
theorem R5 {CX:gP} {P:Program} {w:World} {K:W.Frag} {mg:Str->Option Value} {base:Heap} {N ps:List Str} {qual:Str} {scope:Scope} {f:Addr} {cd:Value} {A:Around} {outer:List Env} {s s1:Shared} {H:Hp} {E:XK} {us:List Value} {vs:List V}
  (S:aq N ps scope) (hd:A.handled=none) (e0:jB P w K mg base A outer s H) (hl:vs.length=ps.length) (r:Yu vs us)
  (x:InCallC s s.heap.objs.size (bindL (envOfC qual scope s.heap.objs.size f cd).kindOf (ps.zip us) fun _=>none) (cellsFrom (s.heap.objs.size+1) scope.names []) (bindC (envOfC qual scope s.heap.objs.size f cd).kindOf (ps.zip us) fun _=>none) s1) :
  Inv (VJ CX P w K mg base N qual scope f cd A outer s H E) [] (Wc N vs) H s1:=by
 have hpl:ps.length<=N.length:=by have:=congrArg List.length S.pre;rw [List.length_take] at this;omega
 obtain ⟨h1,tk,rfl,hk⟩:=x.done;have oZ:∀ b:Addr,b∉(VJ CX P w K mg base N qual scope f cd A outer s H E).ex:=fun b z=>absurd (show b∈([]:List Addr) from z) (by simp)
 refine ⟨⟨e0.mod,S.kind,rfl,rfl,Nat.le_refl _,fun y z c h1 h2=>?_,fun y hy=>?_,fun y c _ h=>?_,fun _=>hd,Around.frames_deeper e0.frames,.inr ⟨rfl,rfl⟩,fun b z=>absurd z (oZ b),e0.bs,e0.jf,fun b _ _=>oZ b,fun b z=>absurd z (oZ b),e0.fB,e0.jF⟩,
  rfl,e0.bare,Un.kept hk,⟨_,x.toInCall.ns,fun i y v h1 h2 h3=>?_⟩,fun y c h=>⟨_,x.cell y c h⟩,e0.hok.fresh (Nat.le_refl _),fun y c h=>?_,fun p hp=>absurd (show p∈([]:List (Addr×Obj)) from hp) (by simp),e0.hok.kept hk,?_⟩
 ·exact name_of_addr x.apart (PySem.mem_of_lookup h1) (PySem.mem_of_lookup h2)
 ·have hy:scope.names.lookup y=some .cell\/scope.names.lookup y=some .free:=hy
  rcases hy with hy | hy
  ·exact Eo hy
  ·exact absurd rfl (S.vg _ (PySem.mem_of_lookup hy))
 ·exact Nat.le_of_lt (x.above y c (PySem.mem_of_lookup h))
 ·have hi:i<vs.length:=by
   unfold Wc at h2;by_cases hi:i<vs.length
   ·exact hi
   ·rw [List.getElem?_append_right (by simpa using hi)] at h2
    rw [List.getElem?_replicate] at h2
    split at h2<;>cases h2
  have ha:vs[i]?=some v:=by
   unfold Wc at h2;rw [List.getElem?_append_left (by simpa using hi),List.getElem?_map] at h2
   cases e:vs[i]? with
   | none=>rw [e] at h2;cases h2
   | some a=>rw [e] at h2;cases h2;rfl
  obtain ⟨u,hu,rv⟩:=r.get ha;have hp:ps[i]?=some y:=by
   rw [<- S.pre,List.getElem?_take_of_lt (by omega)];exact h1
  have Ep:ps.Nodup:=by rw [<- S.pre];exact S.nd.sublist (List.take_sublist _ _)
  refine ⟨u,rv,?_⟩;rcases S.par y (List.mem_of_getElem? hp) with k | k
  ·exact .inl ⟨k,Em Ep hp hu k⟩
  ·obtain ⟨c,e⟩:=Eo (n:=s.heap.objs.size+1) k
   refine .inr ⟨.inl k,c,e,?_⟩;have q:=x.cell y c e;rw [En Ep hp hu (by show scope.names.lookup y≠_;rw [k];decide)] at q
   exact q
 ·exact e0.hok.fresh (Nat.le_of_lt (x.above y c (PySem.mem_of_lookup h)))
 ·unfold Wc
  show _=N.length
  rw [List.length_append,List.length_map,List.length_replicate];omega
theorem vh {CX:gP} {P:Program} {w:World} {K:W.Frag} {mg:Str->Option Value} {base:Heap} {k:Nat} {f:Addr} {name qual:Str} {params:Arguments} {body:List Stmt} {scope:Scope} {dV kV doc pm cdv ct oc:Value} {an od:Option Addr}
  {osl:Array (Option Value)} {N ps:List Str} {sp:Sp} (lk:K.lookup f=some ⟨oc,od,.func (W.fnOf name qual params body scope dV kV doc pm an cdv ct),osl⟩) (hcd:W.codeIn K cdv qual=true) (S:aq N ps scope)
  (len:∀ vs H Q E,sp vs H Q E->vs.length=ps.length)
  (hbody:∀ (A:Around) (outer:List Env) (s:Shared) (H:Hp) (vs:List V) (Q:VK) (E:XK),aR k (A.deeper (envOfC qual scope s.heap.objs.size f cdv))->sp vs H Q E ->
   ∃ t,gn (VJ CX P w K mg base N qual scope f cdv A outer s H E) body t/\t { nx:=fun _ H'=>Q .non H',rt:=Q } (Wc N vs) H) :
  dZ P w K mg base CX (k+1) f (W.fnOf name qual params body scope dV kV doc pm an cdv ct) ps sp:=by
 refine ⟨len,fun A outer s H args us vs Q E hr e0 hb r hsp=>?_⟩;have hl:=len _ _ _ _ hsp;have KX:K.In s.heap:=e0.mod.j6.keeps fun b o e=>(e0.bs b o e).1
 have lim:s.heap.NoLimit:=e0.mod.nolimit.keeps fun b o e=>(e0.bs b o e).1
 have hkind:∀ y∈ps.zip us,scope.names.lookup y.1=some .local\/(scope.names.lookup y.1=some .cell/\((cellsFrom (s.heap.objs.size+1) scope.names []).lookup y.1).isSome=true):=fun ⟨n,v⟩ hy=>by
  rcases S.par n (List.of_mem_zip hy).1 with q | q
  ·exact .inl q
  ·exact .inr ⟨q,W.cellsFrom_some _ _ _ (.inl q)⟩
 refine codeAny_call_function hr.depth (KX _ _ lk) rfl S.co S.gen rfl (W.codeRec_of KX hcd) (hb _ _ _ _ ?_);refine wpAny_newFunctionEnv_cells S.kind hkind fun env he s1 x=>?_
 subst he;refine ⟨lim.keeps x.toInCall.keep,codeAny_func ?_⟩;obtain ⟨t,ht,hq⟩:=hbody A outer s H vs Q E (hr.deeper _) hsp;have I:Inv (VJ CX P w K mg base N qual scope f cdv A outer s H E) [] (Wc N vs) H s1:=R5 S hr.hd e0 hl r x;refine wpAny_mono (ht [] s1 (Wc N vs) H _ I hq) (fun fl s' hs=>?_) fun e s' hs=>hs
 have fin:∀ {σ':St} {H':Hp} {v:V} {u:Value},Inv (VJ CX P w K mg base N qual scope f cdv A outer s H E) [] σ' H' s'->YC v u->Q v H'->CE outer P w H s Q u s' :=
  fun {σ' H' v u} J rv q=>⟨v,H',J.os,J.bare,J.base,J.hok,rv,q⟩
 cases fl with
 | ret u =>
  obtain ⟨v,σ',H',J,rv,q⟩:=hs;exact fin J rv q
 | next =>
  obtain ⟨σ',H',J,q⟩:=hs;exact fin (v:=V.non) (u:=Value.none) J rfl q
 | brk =>
  obtain ⟨_,_,_,q⟩:=hs;exact False.elim q
 | cont =>
  obtain ⟨_,_,_,q⟩:=hs;exact False.elim q
section
variable {X:Cx} {x:Str} {p pos:Pos} {e:Expr} {es:List Expr} {t:TA} {id T:String} {r:List V->Hp->VK->Prop}
def o7 (r:List V->Hp->VK->Prop) (t:TA):TE:=fun σ H Q=>t σ H fun vs H1=>r vs H1 Q
theorem R6 (hc:Xt X (.builtin id) r) (hg:Gl X x) (hm:X.mg x=none) (hv:bootBuiltins x=some (.builtin id)) (ha:PA X (e::es) t) (hn:x≠"__name__":=by decide) (hdb:(x==("__debug__":Str))=false:=by decide)
  (he:starEach (e::es) X.env=(false,eval e X.env)::starEach es X.env:=by rfl) (hpl:(backTo pos (starEach es X.env)).any (·.1)=false:=by rfl):PE X (.Call (.Name x p) (e::es) [] pos) (o7 r t):=by
 intro pins s σ H Q I h;refine wpAny_Call_Name_kw (Ul I hg hm hv ?_ hn hdb);exact PyProof.Rows.callWith_builtin1 (aB (ha pos pins s σ H _ I h) fun us s1 ⟨vs,H1,I1,r1,q1⟩=>hc pins s1 σ H1 vs us Q I1 r1 q1) he hpl
theorem R7 (hc:Xt X (.type T) r) (hg:Gl X x) (hm:X.mg x=none) (hv:bootBuiltins x=some (.type T)) (ha:PA X (e::es) t) (hn:x≠"__name__":=by decide) (hdb:(x==("__debug__":Str))=false:=by decide)
  (he:starEach (e::es) X.env=(false,eval e X.env)::starEach es X.env:=by rfl) (hpl:(backTo pos (starEach es X.env)).any (·.1)=false:=by rfl):PE X (.Call (.Name x p) (e::es) [] pos) (o7 r t):=by
 intro pins s σ H Q I h;refine wpAny_Call_Name_kw (Ul I hg hm hv ?_ hn hdb);exact PyProof.Rows.callWith_type1 (aB (ha pos pins s σ H _ I h) fun us s1 ⟨vs,H1,I1,r1,q1⟩=>hc pins s1 σ H1 vs us Q I1 r1 q1) he hpl
end
end L2
namespace HT
open PySem PyProof.Rows
section
variable {prog:Program} {w:World} {A:Around} {E:Value->Shared->Prop} {s:Shared}
def bO (n d:Nat):Option Int->Nat
 | none=>d
 | some v=>if v<0 then (v+(n:Int)).toNat else min v.toNat n
theorem jC (n d:Nat):bO n d none=d:=rfl
theorem iR (n d k:Nat):bO n d (some (k:Int))=min k n:=by
 show (if (k:Int)<0 then ((k:Int)+(n:Int)).toNat else min (k:Int).toNat n)=min k n
 rw [if_neg (by omega),Int.toNat_natCast]
theorem o8 (n d:Nat) (hd:d<=n) (o:Option Int):bO n d o<=n:=by
 cases o with
 | none=>exact hd
 | some v =>
  show (if v<0 then (v+(n:Int)).toNat else min v.toNat n)<=n
  by_cases hv:v<0
  ·rw [if_pos hv];omega
  ·rw [if_neg hv];exact Nat.min_le_right _ _
end
end HT
namespace L2
open PySem PySem.Spec PyProof.Rows
abbrev TO:=St->Hp->(Option Int->Hp->Prop)->Prop
def PO (X:Cx) (e:Option Expr) (t:TO):Prop :=
 ∀ (pins:List (Addr×Obj)) (s:Shared) (σ:St) (H:Hp) (Q:Option Int->Hp->Prop),Inv X pins σ H s->t σ H Q ->
  wpAny (model X.prog X.w) X.A (evalPart e X.env) (fun u s'=>∃ o H',Inv X pins σ H' s'/\IsPart u o/\Q o H') X.xe s
def Er:TO:=fun _ H Q=>Q none H
def Es (t:TE):TO:=fun σ H Q=>t σ H fun x H1=>∃ i,x = .int i/\Q (some i) H1
section
variable {X:Cx} {e:Expr} {te:TE} {lo hi:Option Expr} {tl th:TO} {pos p2:Pos}
theorem QZ:PO X none Er:=by
 intro pins s σ H Q I h;rw [evalPart_none];exact wpAny_pure ⟨none,H,I,.none,h⟩
theorem WH (h:PE X e te):PO X (some e) (Es te):=by
 intro pins s σ H Q I hw;rw [evalPart_some];refine aB (h pins s σ H _ I hw) fun u s1 ⟨x,H1,I1,r1,q1⟩=>?_
 obtain ⟨i,rfl,q⟩:=q1;obtain ⟨t,rfl⟩:=r1;exact ⟨some i,H1,I1,.int i t,q⟩
def vm (X:Cx) (r:V->Option Int->Option Int->Hp->VK->Prop):Prop :=
 ∀ (pins:List (Addr×Obj)) (s:Shared) (σ:St) (H:Hp) (x:V) (v vl vu:Value) (lo hi:Option Int) (sl:Addr) (Q:VK),Inv X pins σ H s->YC x v->s.heap.IsSliceOf sl vl vu .none->IsPart vl lo->IsPart vu hi->r x lo hi H Q ->
  ∃ T id,typeLookup (.type T) "__getitem__"=pure (some (.builtin id))/\s.TypeIs v T/\wpAny (model X.prog X.w) X.A (getItem v (.ref sl)) (EP X pins σ Q) X.xe s
def Et (r:V->Option Int->Option Int->Hp->VK->Prop) (te:TE) (tl th:TO):TE:=fun σ H Q=>te σ H fun x H1=>tl σ H1 fun l H2=>th σ H2 fun u H3=>r x l u H3 Q
theorem Vl {r:V->Option Int->Option Int->Hp->VK->Prop} (hr:vm X r) (he:PE X e te) (hl:PO X lo tl) (hu:PO X hi th):PE X (.Subscript e (.Slice lo hi none p2) pos) (Et r te tl th):=by
 intro pins s σ H Q I h;refine Subscript_ (aB (he pins s σ H _ I h) fun v s1 ⟨x,H1,I1,r1,q1⟩=>?_);refine wpAny_Slice (aB (hl pins s1 σ H1 _ I1 q1) fun vl s2 ⟨l,H2,I2,pl,q2⟩=>aB (hu pins s2 σ H2 _ I2 q2) fun vu s3 ⟨u,H3,I3,pu,q3⟩=>?_);rw [evalPart_none];refine wpAny_pure ?_;have I4:Inv X pins σ H3 { s3 with heap:=s3.heap.push { cls := .type "slice",data := .fields #[vl,vu,.none] } }:=I3.kept (t':=s3.toks) fun b ob q=>Heap.get?_push_of_some _ q
 obtain ⟨T,id,hT,ht,hg⟩:=hr pins { s3 with heap:=s3.heap.push { cls := .type "slice",data := .fields #[vl,vu,.none] } } σ H3 x v vl vu l u s3.heap.objs.size Q I4 r1 (Heap.IsSliceOf.new ..) pl pu q3
 show wpAny (model X.prog X.w) X.A (subscriptTail e (.Slice lo hi none p2) v (.ref s3.heap.objs.size)) (EP X pins σ Q) X.xe { s3 with heap:=s3.heap.push { cls := .type "slice",data := .fields #[vl,vu,.none] } }
 exact tail_any (ops:=[.ref s3.heap.objs.size,v]) ht hT hg (by with_unfolding_all rfl)
def WI (xs:List V) (lo hi:Option Int):List V:=(xs.drop (HT.bO xs.length 0 lo)).take (HT.bO xs.length xs.length hi - HT.bO xs.length 0 lo)
theorem R8 (xs:List V) (lo hi:Option Int):(WI xs lo hi).length<=xs.length:=by
 unfold WI;rw [List.length_take,List.length_drop];omega
end
def ju (n:Nat) (i:Int):Option Nat:=if 0<=i then (if i<n then some i.toNat else none) else if -(n:Int)<=i then some (i+n).toNat else none
def iC {α:Type} (xs:List α) (i:Int):Option α:=(ju xs.length i).bind fun j=>xs[j]?
theorem Eu {n:Nat} {i:Int} {j:Nat} (h:ju n i=some j):seqIndex? i n=some j/\j<n /\ -(n:Int)<=i/\i<n:=by
 unfold ju at h;by_cases h0:0<=i
 ·rw [if_pos h0] at h
  by_cases h1:i<n
  ·rw [if_pos h1] at h
   have e:i.toNat=j:=Option.some.inj h;exact ⟨by rw [seqIndex_of h0 h1,e],by omega,by omega,h1⟩
  ·rw [if_neg h1] at h;cases h
 ·rw [if_neg h0] at h
  by_cases h1 : -(n:Int)<=i
  ·rw [if_pos h1] at h
   have e:(i+n).toNat=j:=Option.some.inj h;exact ⟨by rw [seqIndex_neg (by omega) h1,e],by omega,h1,by omega⟩
  ·rw [if_neg h1] at h;cases h
theorem Q0 {α:Type} {xs:List α} {i:Int} {v:α} (h:iC xs i=some v):∃ j,seqIndex? i xs.length=some j/\xs[j]?=some v/\j<xs.length /\ -(xs.length:Int)<=i/\i<xs.length:=by
 unfold iC at h
 cases e:ju xs.length i with
 | none=>rw [e] at h;cases h
 | some j =>
  rw [e] at h
  obtain ⟨h1,h2,h3,h4⟩:=Eu e;exact ⟨j,h1,h,h2,h3,h4⟩
theorem Yz {α:Type} {xs:List α} {j:Nat} {v:α} (h:xs[j]?=some v):iC xs (j:Int)=some v:=by
 have hj:j<xs.length:=(List.getElem?_eq_some_iff.mp h).1;have e:ju xs.length (j:Int)=some j:=by
  unfold ju;rw [if_pos (by omega),if_pos (by omega)];simp
 unfold iC;rw [e];exact h
def R9 (b:Expr):Prop:=∀ o i,subscripted b false o i=operate [o,i] (getItem o i)
def o9 (X:Cx) (r:R2):Prop :=
 ∀ (value slice:Expr) (pins:List (Addr×Obj)) (s:Shared) (σ:St) (H:Hp) (x y:V) (v u:Value) (Q:VK),Inv X pins σ H s->YC x v->YC y u->r x y H Q ->
  subscripted slice false v u=operate [v,u] (getItem v u)->wpAny (model X.prog X.w) X.A (subscriptTail value slice v u) (EP X pins σ Q) X.xe s
def nj (X:Cx) (id:String) (r:V->List V->Hp->VK->Prop):Prop :=
 ∀ (pins:List (Addr×Obj)) (s:Shared) (σ:St) (H:Hp) (x:V) (xs:List V) (v:Value) (us:List Value) (Q:VK),Inv X pins σ H s->YC x v->Yu xs us->r x xs H Q ->
  wpAny (model X.prog X.w) X.A (call (.builtin id) (v::us)) (EP X pins σ Q) X.xe s
section
variable {X:Cx} {a b:Expr} {ta tb:TE} {pos:Pos}
theorem Yr {r:R2} (hr:o9 X r) (ha:PE X a ta) (hb:PE X b tb) (hs:R9 b):PE X (.Subscript a b pos) (jG r ta tb):=by
 intro pins s σ H Q I h;exact Subscript_ (qF ha hb I h fun v u s2 x y H2 I2 rx ry q=>hr a b pins s2 σ H2 x y v u Q I2 rx ry q (hs _ _))
def qH (K:W.Frag):R2:=fun x y H Q=>∃ p xs i v,x = .ref p/\y = .int i/\au K H p xs/\iC xs i=some v/\Q v H
def vo (K:W.Frag):R2:=fun x y H Q=>∃ p xs i v,x = .ref p/\y = .int i/\aD K H p xs/\iC xs i=some v/\Q v H
def Oj:R2:=fun x y H Q=>∃ z i c,x = .str z/\y = .int i/\z.length<=sizeLine/\iC z.cps.toList i=some c/\Q (.str ⟨#[c]⟩) H
theorem Xg:o9 X (qH X.K):=by
 intro value slice pins s σ H x y v u Q I rx ry h hs;obtain ⟨p,xs,i,z,rfl,rfl,hq,he,q⟩:=h
 cases rx
 obtain ⟨t,rfl⟩:=ry;obtain ⟨its,r,pl,hz⟩:=I.list hq;obtain ⟨j,h1,h2,h3,h4,h5⟩:=Q0 he;obtain ⟨w,ew,g8⟩:=r.get h2;have hl:=r.length;have hn:=VP;have fin:EP X pins σ Q w s:=⟨z,H,I,g8,q⟩;by_cases h0:0<=i
 ·have hj:i.toNat=j:=by
   rw [seqIndex_of h0 h5] at h1
   exact Option.some.inj h1
  exact item_listR pl.isList h0 (by omega) (by rw [hj];simpa using ew) fin hs
 ·have hj:(i+(its.toArray.size:Int)).toNat=j:=by
   rw [seqIndex_neg (by omega) h4] at h1
   rw [List.size_toArray,<- hl];exact Option.some.inj h1
  exact subscriptTail_builtinR (x:=w) pl.isList.typeIs slot_list_getitem.lookup
   (wpAny_getItem_list_neg (Q:=fun r s'=>r=w/\EP X pins σ Q r s') pl.isList (by omega) (by rw [List.size_toArray]<;>omega) (by omega) (by rw [hj];simpa using ew) ⟨rfl,fin⟩) hs
theorem Yx:o9 X (vo X.K):=by
 intro value slice pins s σ H x y v u Q I rx ry h hs;obtain ⟨p,xs,i,z,rfl,rfl,hq,he,q⟩:=h
 cases rx
 obtain ⟨t,rfl⟩:=ry;obtain ⟨its,r,pl,hz⟩:=I.tuple hq;obtain ⟨j,h1,h2,h3,h4,h5⟩:=Q0 he;obtain ⟨w,ew,g8⟩:=r.get h2;have hl:=r.length;have hn:=VP;have fin:EP X pins σ Q w s:=⟨z,H,I,g8,q⟩;exact subscriptTail_builtinR (x:=w) pl.typeIs slot_tuple_getitem.lookup
  (getItem_tuple (j:=j) (Q:=fun r s'=>r=w/\EP X pins σ Q r s') pl (by omega) (by omega) (by rw [List.size_toArray,<- hl];exact h1) (by simpa using ew) ⟨rfl,fin⟩) hs
theorem vp:o9 X Oj:=by
 intro value slice pins s σ H x y v u Q I rx ry h hs;obtain ⟨z,i,c,rfl,rfl,hz,he,q⟩:=h;obtain ⟨t,rfl⟩:=rx;obtain ⟨t',rfl⟩:=ry;obtain ⟨j,h1,h2,h3,h4,h5⟩:=Q0 he;have hl:z.cps.toList.length=z.length:=by simp [Str.length]
 rw [hl] at h1 h4 h5
 have hn:=VP;exact tail_any (typeIs_str s z t) slot_str_getitem.lookup (getItem_str (c:=c) (by
  have e1:decide (i < -(2^63:Int))=false:=decide_eq_false (by omega);have e2:decide (i>=2^63)=false:=decide_eq_false (by omega);rw [e1,e2,Bool.or_false]) (by rw [h1];simpa using h2) ⟨.str ⟨#[c]⟩,H,I.tok _,⟨_,rfl⟩,q⟩) hs
theorem Sd (its:List Value) (n j:Nat) (u:Value):Obj.mapSeq (·.setIfInBounds j u) { cls := .type "list",data := .seq its.toArray n }={ cls := .type "list",data := .seq (its.set j u).toArray n }:=by
 simp [Obj.mapSeq]
theorem Inv.lst {pins:List (Addr×Obj)} {σ:St} {H:Hp} {s:Shared} {p:Addr} {xs:List V} (I:Inv X pins σ H s) (h:H p=some (.lst xs)) :
  ∃ (its:List Value) (n:Nat),Yu xs its/\s.heap.get? p=some { cls := .type "list",data := .seq its.toArray n }/\xs.length<=sizeLine:=by
 obtain ⟨z,its,n,r,e⟩:=I.hok p _ h;exact ⟨its,n,r,e,z⟩
theorem Inv.vq {pins:List (Addr×Obj)} {σ:St} {H:Hp} {s:Shared} {p:Addr} {xs ys:List V} {its its':List Value} {n n':Nat} {f:Obj->Obj} (I:Inv X pins σ H s) (h:H p=some (.lst xs))
  (ho:s.heap.get? p=some { cls := .type "list",data := .seq its.toArray n }) (hf:f { cls := .type "list",data := .seq its.toArray n }={ cls := .type "list",data := .seq its'.toArray n' }) (r:Yu ys its') (hz:ys.length<=sizeLine) (t:Nat) :
  Inv X pins σ (upd H p (.lst ys)) { s with heap:=s.heap.update p f,toks:=t }:=by
 have e:(s.heap.update p f).get? p=some { cls := .type "list",data := .seq its'.toArray n' }:=by
  rw [Heap.get?_update_self f ho (by rw [hf]<;>rfl),hf]
 refine I.write (x:=p) (e:=p) (by rw [h];trivial) (.inl rfl) (fun b u hb q=>(Heap.get?_update_other _ _ (Ne.symm hb)).trans q) ⟨_,e⟩ ?_;exact ⟨hz,its',n',r,e⟩
def Ew:V->V->V->Hp->(Hp->Prop)->Prop:=fun o i v H Q=>∃ p xs k j,o = .ref p/\i = .int k/\H p=some (.lst xs)/\ju xs.length k=some j/\Q (upd H p (.lst (xs.set j v)))
theorem Ey:uL X Ew:=by
 intro pins s σ H o i v ov iv u Q I ro ri rv h;obtain ⟨p,xs,k,j,rfl,rfl,hp,hj,q⟩:=h
 cases ro
 obtain ⟨t,rfl⟩:=ri;obtain ⟨its,n,r,ho,hz⟩:=I.lst hp;obtain ⟨h1,h2,h3,h4⟩:=Eu hj;have hl:=r.length;have hn:=VP;have I':Inv X pins σ (upd H p (.lst (xs.set j v))) { s with heap:=s.heap.update p (Obj.mapSeq (·.setIfInBounds j u)) } :=
  I.vq hp ho (Sd its n j u) (r.set rv j) (by rw [List.length_set];exact hz) s.toks
 by_cases h0:0<=k
 ·have hk:k.toNat=j:=by
   rw [seqIndex_of h0 h4] at h1
   exact Option.some.inj h1
  exact W.ki_setAt ho h0 (by omega) (by rw [List.size_toArray,<- hl];exact h4) (by rw [hk];exact ⟨_,I',q⟩)
 ·have hk:(k+(its.toArray.size:Int)).toNat=j:=by
   rw [seqIndex_neg (by omega) h3] at h1
   rw [List.size_toArray,<- hl];exact Option.some.inj h1
  exact W.ki_setBack ho (by omega) (by rw [List.size_toArray,<- hl];exact h3) (by omega) (by rw [hk];exact ⟨_,I',q⟩)
theorem Sg (lo hi:Option Int) (n:Nat):(sliceBounds lo hi none n).1=((HT.bO n 0 lo:Nat):Int)/\(sliceBounds lo hi none n).2.1=((HT.bO n n hi:Nat):Int)/\(sliceBounds lo hi none n).2.2=1:=by
 refine ⟨?_,?_,rfl⟩
 ·cases lo with
  | none=>simp [sliceBounds,HT.bO]
  | some i =>
   simp only [sliceBounds,HT.bO,Option.getD_none,show (1:Int)>0 by decide,if_true];by_cases h:i<0
   ·simp only [h,if_true]<;>omega
   ·simp only [h,if_false]<;>omega
 ·cases hi with
  | none=>simp [sliceBounds,HT.bO]
  | some i =>
   simp only [sliceBounds,HT.bO,Option.getD_none,show (1:Int)>0 by decide,if_true];by_cases h:i<0
   ·simp only [h,if_true]<;>omega
   ·simp only [h,if_false]<;>omega
theorem Sq (its:List Value) (lo hi:Option Int):slicePick its.toArray lo hi none=((its.drop (HT.bO its.length 0 lo)).take (HT.bO its.length its.length hi - HT.bO its.length 0 lo)).toArray:=by
 obtain ⟨h1,h2,h3⟩:=Sg lo hi its.toArray.size;unfold slicePick;rw [h1,h2,h3];simp only [sliceRange_one,pick_run,List.size_toArray]<;>rfl
def vA (K:W.Frag):V->Option Int->Option Int->Hp->VK->Prop:=fun x lo hi H Q=>∃ a xs,x = .ref a/\au K H a xs/\∀ p,H p=none->Q (.ref p) (upd H p (.lst (WI xs lo hi)))
theorem Ez:vm X (vA X.K):=by
 intro pins s σ H x v vl vu lo hi sl Q I rx hs pl pu h;obtain ⟨a,xs,rfl,hx,q⟩:=h
 cases rx
 obtain ⟨its,r,ht,hz⟩:=I.list hx;have hlen:=r.length;refine ⟨"list",_,slot_list_getitem.lookup,ht.isList.typeIs,?_⟩;refine wpAny_getItem_list_slice ht.isList hs pl pu .none (by simp) ?_ (by rw [List.size_toArray]<;>omega);rw [Sq,<- hlen];refine ⟨.ref s.heap.objs.size,_,I.laid (t':=s.toks) (o := .lst (WI xs lo hi)) (fun b ob q=>Heap.get?_push_of_some _ q) (Nat.le_refl _) ?_,rfl,q _ (I.hok.fresh (Nat.le_refl _))⟩;exact ⟨Nat.le_trans (R8 xs lo hi) hz,_,0,(r.drop (HT.bO xs.length 0 lo)).take (HT.bO xs.length xs.length hi - HT.bO xs.length 0 lo),Heap.get?_push_size _ rfl⟩
def Wr:V->Bool
 | .non=>true
 | .bl _=>true
 | .int _=>true
 | .str _=>true
 | _=>false
def gq:V->V->Bool
 | .non,.non=>true
 | .bl a,.bl b=>a==b
 | .bl a,.int b=>(if a then 1 else 0)==b
 | .int a,.bl b=>a==(if b then 1 else 0)
 | .int a,.int b=>a==b
 | .str a,.str b=>a==b
 | _,_=>false
theorem Ss {A:Around} {s:Shared} {y x:V} {u v:Value} (ry:YC y u) (rx:YC x v) (fy:Wr y=true) (fx:Wr x=true):SeqAt.EqAt A s u v (gq y x):=by
 cases y with
 | non =>
  cases ry
  cases x with
  | non=>cases rx;exact SeqAt.EqAt.same _
  | bl b=>cases rx;exact SeqAt.EqAt.none_bool b
  | int b=>obtain ⟨t,rfl⟩:=rx;exact SeqAt.EqAt.none_int b t
  | str b=>obtain ⟨t,rfl⟩:=rx;exact SeqAt.EqAt.none_str b t
  | _=>exact absurd (show false=true from fx) Bool.false_ne_true
 | bl a =>
  cases ry
  cases x with
  | non=>cases rx;exact SeqAt.EqAt.bool_none a
  | bl b=>cases rx;exact SeqAt.EqAt.bool_bool a b
  | int b=>obtain ⟨t,rfl⟩:=rx;exact SeqAt.EqAt.bool_int a b t
  | str b=>obtain ⟨t,rfl⟩:=rx;exact SeqAt.EqAt.bool_str a b t
  | _=>exact absurd (show false=true from fx) Bool.false_ne_true
 | int a =>
  obtain ⟨t',rfl⟩:=ry
  cases x with
  | non=>cases rx;exact SeqAt.EqAt.int_none a t'
  | bl b=>cases rx;exact SeqAt.EqAt.int_bool a t' b
  | int b=>obtain ⟨t,rfl⟩:=rx;exact SeqAt.EqAt.int_int a t' b t
  | str b=>obtain ⟨t,rfl⟩:=rx;exact SeqAt.EqAt.int_str a t' b t
  | _=>exact absurd (show false=true from fx) Bool.false_ne_true
 | str a =>
  obtain ⟨t',rfl⟩:=ry
  cases x with
  | non=>cases rx;exact SeqAt.EqAt.str_none a t'
  | bl b=>cases rx;exact SeqAt.EqAt.str_bool a t' b
  | int b=>obtain ⟨t,rfl⟩:=rx;exact SeqAt.EqAt.str_int a t' b t
  | str b=>obtain ⟨t,rfl⟩:=rx;exact SeqAt.EqAt.str_str a t' b t
  | _=>exact absurd (show false=true from fx) Bool.false_ne_true
 | _=>exact absurd (show false=true from fy) Bool.false_ne_true
def ig (x:V) (u:Value):Bool:=match u with
 | .none=>gq .non x
 | .bool b=>gq (.bl b) x
 | .int i _=>gq (.int i) x
 | .str z _=>gq (.str z) x
 | _=>false
theorem EY {x y:V} {u:Value} (r:YC y u) (f:Wr y=true):ig x u=gq y x:=by
 cases y with
 | non=>cases r;rfl
 | bl b=>cases r;rfl
 | int i=>obtain ⟨t,rfl⟩:=r;rfl
 | str z=>obtain ⟨t,rfl⟩:=r;rfl
 | _=>exact absurd (show false=true from f) Bool.false_ne_true
theorem VQ {x:V}:∀ {xs:List V} {us:List Value},Yu xs us->xs.all Wr=true->us.any (ig x)=xs.any fun y=>gq y x
 | _,_,.nil,_=>rfl
 | y::xs,u::us,.cons r t,f=>by
  rw [List.all_cons,Bool.and_eq_true] at f
  rw [List.any_cons,List.any_cons,EY r f.1,VQ t f.2]
theorem Vm {A:Around} {s:Shared} {x:V} {v:Value} (rx:YC x v) (fx:Wr x=true):∀ {xs:List V} {us:List Value},Yu xs us->xs.all Wr=true->∀ u∈us,SeqAt.EqAt A s u v (ig x u)
 | _,_,.nil,_=>fun u hu=>by cases hu
 | y::xs,u::us,.cons r t,f=>fun u' hu=>by
  rw [List.all_cons,Bool.and_eq_true] at f
  rcases List.mem_cons.mp hu with rfl | hu
  ·rw [EY r f.1];exact Ss r rx f.1 fx
  ·exact Vm rx fx t f.2 u' hu
def inV (x:V) (xs:List V):Bool:=xs.any fun y=>gq y x
def vB (K:W.Frag) (neg:Bool):R2:=fun x y H Q=>∃ p xs,y = .ref p/\(au K H p xs\/aD K H p xs)/\Wr x=true/\xs.all Wr=true/\Q (.bl (if neg then !inV x xs else inV x xs)) H
theorem Xk:cR X (compareOp .In) (vB X.K false):=by
 intro pins s σ H x y v u Q I rx ry h;obtain ⟨p,xs,rfl,hq,fx,fs,q⟩:=h
 cases ry
 rcases hq with hq | hq
 ·obtain ⟨its,r,pl,hz⟩:=I.list hq
  refine SeqAt.in_listAt (ig x) pl.isList (fun w hw=>Vm rx fx r fs w (by simpa using hw)) ⟨.bl _,H,I,rfl,?_⟩;rw [show its.toArray.any (ig x)=its.any (ig x) by simp,VQ r fs];exact q
 ·obtain ⟨its,r,pl,hz⟩:=I.tuple hq
  refine SeqAt.in_tupleAt (ig x) pl (fun w hw=>Vm rx fx r fs w (by simpa using hw)) ⟨.bl _,H,I,rfl,?_⟩;rw [show its.toArray.any (ig x)=its.any (ig x) by simp,VQ r fs];exact q
theorem Sv:cR X (compareOp .NotIn) (vB X.K true):=by
 intro pins s σ H x y v u Q I rx ry h;obtain ⟨p,xs,rfl,hq,fx,fs,q⟩:=h
 cases ry
 rcases hq with hq | hq
 ·obtain ⟨its,r,pl,hz⟩:=I.list hq
  refine SeqAt.notIn_listAt (ig x) pl.isList (fun w hw=>Vm rx fx r fs w (by simpa using hw)) ⟨.bl _,H,I,rfl,?_⟩;rw [show its.toArray.any (ig x)=its.any (ig x) by simp,VQ r fs];exact q
 ·obtain ⟨its,r,pl,hz⟩:=I.tuple hq
  refine SeqAt.notIn_tupleAt (ig x) pl (fun w hw=>Vm rx fx r fs w (by simpa using hw)) ⟨.bl _,H,I,rfl,?_⟩;rw [show its.toArray.any (ig x)=its.any (ig x) by simp,VQ r fs];exact q
theorem YN:Xt X (.builtin "len") (fun xs H Q=>∃ p ys,xs=[.ref p]/\(au X.K H p ys\/aD X.K H p ys)/\Q (.int ys.length) H):=by
 intro pins s σ H xs us Q I r h;obtain ⟨p,ys,rfl,hq,q⟩:=h;obtain ⟨u,rfl,rx⟩:=XO r
 cases rx
 have hn:=VP;rcases hq with hq | hq
 ·obtain ⟨its,r',pl,hz⟩:=I.list hq
  have hlen:=r'.length;exact Calls.call_len_list pl.isList (by simp only [List.size_toArray]<;>omega) ⟨.int ys.length,H,I.tok _,⟨s.toks+1,by rw [List.size_toArray,hlen]⟩,q⟩
 ·obtain ⟨its,r',pl,hz⟩:=I.tuple hq
  have hlen:=r'.length;exact len_tuple pl (by simp only [List.size_toArray]<;>omega) ⟨.int ys.length,H,I.tok _,⟨s.toks+1,by rw [List.size_toArray,hlen]⟩,q⟩
theorem Xl:Xt X (.builtin "len") (fun xs H Q=>∃ z,xs=[.str z]/\z.length<=sizeLine/\Q (.int z.length) H):=by
 intro pins s σ H xs us Q I r h;obtain ⟨z,rfl,hz,q⟩:=h;obtain ⟨u,rfl,t,rfl⟩:=XO r;have hn:=VP;exact len_str (by omega) ⟨.int z.length,H,I.tok _,⟨_,rfl⟩,q⟩
theorem Sw:Xt X (.type "list") (fun xs H Q=>∃ p ys,xs=[.ref p]/\(au X.K H p ys\/aD X.K H p ys)/\∀ l,H l=none->Q (.ref l) (upd H l (.lst ys))):=by
 intro pins s σ H xs us Q I r h;obtain ⟨p,ys,rfl,hq,q⟩:=h;obtain ⟨u,rfl,rx⟩:=XO r
 cases rx
 have fin:∀ (its:List Value),Yu ys its->ys.length<=sizeLine->∀ (h':Heap) (c':Nat),(∀ b o',s.heap.get? b=some o'->h'.get? b=some o') ->
   h'.get? s.heap.objs.size=some { cls := .type "list",dict:=none,data := .seq its.toArray c',slots:=#[] }->EP X pins σ Q (.ref s.heap.objs.size) { s with heap:=h' }:=fun its r' hz h' c' kp e =>
  ⟨.ref s.heap.objs.size,_,I.laid (t':=s.toks) kp (Nat.le_refl _) (show YS X.prog X.w _ h' _ (.lst ys) from ⟨hz,its,c',r',e⟩),rfl,q _ (I.hok.fresh (Nat.le_refl _))⟩
 rcases hq with hq | hq
 ·obtain ⟨its,r',pl,hz⟩:=I.list hq
  have hlen:=r'.length;obtain ⟨o,ho,hc,n,hd⟩:=pl.isList;exact call_list_seq p (.inl rfl) ho hc hd (fun h' c' kp e=>fin its r' hz h' c' kp e) (by simp only [List.size_toArray]<;>omega)
 ·obtain ⟨its,r',pl,hz⟩:=I.tuple hq
  have hlen:=r'.length;obtain ⟨o,ho,hc,n,hd⟩:=pl;exact call_list_seq p (.inr rfl) ho hc hd (fun h' c' kp e=>fin its r' hz h' c' kp e) (by simp only [List.size_toArray]<;>omega)
theorem W4:Xt X (.type "tuple") (fun xs H Q=>∃ p ys,xs=[.ref p]/\((au X.K H p ys/\∀ l,H l=none->Q (.ref l) (upd H l (.tup ys)))\/(aD X.K H p ys/\Q (.ref p) H))):=by
 intro pins s σ H xs us Q I r h;obtain ⟨p,ys,rfl,h⟩:=h;obtain ⟨u,rfl,rx⟩:=XO r
 cases rx
 rcases h with ⟨hq,q⟩ | ⟨hq,q⟩
 ·obtain ⟨its,r',pl,hz⟩:=I.list hq
  have hlen:=r'.length;refine call_tuple_list pl.isList (fun h' kp=>?_) (by simp only [List.size_toArray]<;>omega);have I1:Inv X pins σ H { s with heap:=h' }:=I.kept (t':=s.toks) kp;have I2:Inv X pins σ (upd H h'.objs.size (.tup ys)) { s with heap:=h'.push { cls := .type "tuple",data := .seq its.toArray } } :=
   I1.laid (t':=s.toks) (fun b o e=>Heap.get?_push_of_some _ e) (Nat.le_refl _) (show YS X.prog X.w _ _ _ (.tup ys) from ⟨hz,its,r',IsTup.new _ _⟩)
  exact ⟨.ref h'.objs.size,_,I2,rfl,q _ (I1.hok.fresh (Nat.le_refl _))⟩
 ·obtain ⟨its,r',pl,hz⟩:=I.tuple hq
  exact call_tuple_same pl ⟨.ref p,H,I,rfl,q⟩
def vC (K:W.Frag) (T:String) (x:V) (H:Hp):Prop:=match x with
 | .str _=>T="str"
 | .int _=>T="int"
 | .ref p=>(T="list"/\∃ xs,au K H p xs)\/(T="tuple"/\∃ o,K.lookup p=some o/\o.cls = .type "tuple"/\o.dict=none) \/
   (T="dict"/\((∃ kvs,H p=some (.dK kvs))\/∃ kvs,H p=some (.dT kvs)))\/(T="set"/\∃ S n,H p=some (.set S n))
 | _=>False
theorem Sy {pins:List (Addr×Obj)} {σ:St} {H:Hp} {s:Shared} {T:String} {x:V} {v:Value} (I:Inv X pins σ H s) (r:YC x v) (ty:vC X.K T x H) :
  s.TypeIs v T/\∀ a,v = .ref a->∃ ob,s.heap.get? a=some ob/\ob.dict=none:=by
 cases x with
 | str z =>
  obtain ⟨t,rfl⟩:=r
  cases (show T="str" from ty)
  exact ⟨typeIs_str s z t,fun _ e=>nomatch e⟩
 | int i =>
  obtain ⟨t,rfl⟩:=r
  cases (show T="int" from ty)
  exact ⟨typeIs_int s i t,fun _ e=>nomatch e⟩
 | ref p =>
  cases r
  rcases ty with ⟨rfl,xs,hq⟩ | ⟨rfl,o,hk,hc,hd⟩ | ⟨rfl,hk⟩ | ⟨rfl,S,n,hk⟩
  ·obtain ⟨its,_,pl,_⟩:=I.list hq
   refine ⟨pl.isList.typeIs,fun a e=>?_⟩
   cases e
   obtain ⟨o,n,e,c,hd,_⟩:=pl;exact ⟨o,e,hd⟩
  ·refine ⟨⟨o,I.bF p o hk,hc⟩,fun a e=>?_⟩
   cases e
   exact ⟨o,I.bF _ o hk,hd⟩
  ·have z:∃ o,s.heap.get? p=some o/\o.ExactDict:=by
    rcases hk with ⟨kvs,hk⟩ | ⟨kvs,hk⟩
    ·obtain ⟨_,_,_,_,o,_,_,e,ex,_⟩:=I.hok p _ hk
     exact ⟨o,e,ex⟩
    ·obtain ⟨_,_,_,_,o,_,_,e,ex,_⟩:=I.hok p _ hk
     exact ⟨o,e,ex⟩
   obtain ⟨o,e,ex⟩:=z;refine ⟨⟨o,e,ex.1⟩,fun a e2=>?_⟩
   cases e2
   exact ⟨o,e,ex.2.1⟩
  ·obtain ⟨o,_,_,_,e,ex,_⟩:=I.hok p _ hk
   refine ⟨⟨o,e,ex.1⟩,fun a e2=>?_⟩
   cases e2
   exact ⟨o,e,ex.2.1⟩
 | _=>exact False.elim ty
def Ol (K:W.Frag) (T:String) (r:V->List V->Hp->VK->Prop) (to:TE):TE:=fun σ H Q=>to σ H fun x H1=>vC K T x H1/\r x [] H1 Q
def Fb (K:W.Frag) (T:String) (r:V->List V->Hp->VK->Prop) (to:TE) (t:TA):TE:=fun σ H Q=>to σ H fun x H1=>vC K T x H1/\t σ H1 fun xs H2=>r x xs H2 Q
variable {o e:Expr} {es:List Expr} {to:TE} {t:TA} {name:Str} {apos cpos:Pos} {T id:String} {r:V->List V->Hp->VK->Prop}
theorem XF (pa:PlainAttrs T) (slot:Slot T name id) (hty:typeOf (.builtin id)=pure (.type "method_descriptor")) (hm:nj X id r) (ho:PE X o to) (ha:PA X (e::es) t)
  (hbase:attributeBase o name X.env (eval o X.env)=eval o X.env:=by rfl)
  (hfew:((backTo cpos (starEach (e::es) X.env)).all (fun x => !x.1)&&(backToKw cpos (keywordEach [] X.env)).all (fun x=>x.1.isSome)
   && decide ((e::es).length+([]:List Keyword).length+(if ([]:List Keyword).isEmpty then 0 else 1)<30))=true:=by rfl)
  (hline:(apos.endLine==cpos.line)=true:=by rfl) (hs:starEach (e::es) X.env=(false,eval e X.env)::starEach es X.env:=by rfl) (hplain:(backTo cpos (starEach es X.env)).any (·.1)=false:=by rfl) :
  PE X (.Call (.Attribute o name apos) (e::es) [] cpos) (Fb X.K T r to t):=by
 intro pins s σ H Q I h;refine wpAny_Call_method_late hbase hfew hline rfl (aB (ho pins s σ H _ I h) fun v s1 ⟨x,H1,I1,r1,ty,q1⟩=>?_);obtain ⟨h1,h2⟩:=Sy I1 r1 ty;refine ⟨T,id,pa,slot,hty,h1,h2,?_⟩;have hA:=ha cpos pins s1 σ H1 _ I1 q1;rw [hs] at hA ⊢
 refine Calls.callWith_builtin (by show (false||(backTo cpos (starEach es X.env)).any (·.1))=false;rw [hplain]<;>rfl) (Calls.evalArgs_plain ?_);exact aB hA fun us s2 ⟨vs,H2,I2,r2,q2⟩=>hm pins s2 σ H2 x vs v us Q I2 r1 r2 q2
/- xs.append(e),list.index on a module's tuple .. are nj facts of 06m -/
end
def Fd (X:Cx) (id:String) (r:V->List V->Hp->VK->Prop):Prop :=
 ∀ (pins:List (Addr×Obj)) (s:Shared) (σ:St) (H:Hp) (x:V) (xs:List V) (v:Value) (us:List Value) (Q:VK),Inv X pins σ H s->YC x v->Yu xs us->r x xs H Q ->
  wpAny (model X.prog X.w) X.A (call (.builtin id) (v::us)) (EP X pins σ Q) X.xe s
theorem Yu.one:∀ {x:V} {us:List Value},Yu [x] us->∃ u,us=[u]/\YC x u
 | _,_,.cons r .nil=>⟨_,rfl,r⟩
theorem Yu.zero:∀ {us:List Value},Yu [] us->us=[]
 | _,.nil=>rfl
theorem Yu.rep {xs:List V} {us:List Value} (h:Yu xs us):∀ k:Nat,Yu (List.replicate k xs).flatten (List.replicate k us).flatten
 | 0 => .nil
 | k+1=>by
  rw [List.replicate_succ,List.replicate_succ,List.flatten_cons,List.flatten_cons];exact Yu.append h (Yu.rep h k)
theorem Fe (its:List Value):∀ (k:Nat) (acc:List Value),
  List.foldl (fun x1 x2=>x1++x2) acc.toArray (List.replicate k its.toArray)=(acc++(List.replicate k its).flatten).toArray
 | 0,acc=>by simp
 | k+1,acc=>by
  have e:acc.toArray++its.toArray=(acc++its).toArray:=by simp
  have e2:(acc++its)++(List.replicate k its).flatten=acc++(List.replicate (k+1) its).flatten:=by
   rw [List.replicate_succ,List.flatten_cons,List.append_assoc]
  rw [<- e2,<- Fe its k (acc++its),<- e,List.replicate_succ,List.foldl_cons]
section
variable {X:Cx} {pins:List (Addr×Obj)} {σ:St} {H:Hp} {s:Shared} {l b:Addr} {xs ys zs:List V}
theorem Inv.vD {its its':List Value} {n:Nat} {f:Array Value->Array Value} {t':Nat} (I:Inv X pins σ H s) (hH:H l=some (.lst xs))
  (e:s.heap.get? l=some { cls := .type "list",data := .seq its.toArray n }) (hf:f its.toArray=its'.toArray) (hv:Yu ys its') (hz:ys.length<=sizeLine) :
  Inv X pins σ (upd H l (.lst ys)) { s with heap:=s.heap.update l (Obj.mapSeq f),toks:=t' }:=by
 have q:=PySem.IsL.update e f;rw [hf] at q
 refine I.write (x:=l) (e:=l) (by rw [hH];exact trivial) (.inl rfl) (fun b' u hb hu=>(Heap.get?_update_other s.heap (Obj.mapSeq f) (Ne.symm hb)).trans hu) ⟨_,q⟩ ?_;exact ⟨hz,its',_,hv,q⟩
theorem Inv.lE {its:List Value} {t':Nat} (I:Inv X pins σ H s) (hv:Yu ys its) (hz:ys.length<=sizeLine) :
  Inv X pins σ (upd H s.heap.objs.size (.lst ys)) { s with heap:=s.heap.push { cls := .type "list",data := .seq its.toArray },toks:=t' } :=
 I.laid (fun _ _ q=>Heap.get?_push_of_some _ q) (Nat.le_refl _) ⟨hz,its,0,hv,Heap.get?_push_size _ rfl⟩
theorem Inv.fresh (I:Inv X pins σ H s):H s.heap.objs.size=none:=I.hok.fresh (Nat.le_refl _)
theorem Inv.jV (I:Inv X pins σ H s) (hH:H l=some (.lst xs)):xs.length<=sizeLine/\∃ (its:List Value) (n:Nat),Yu xs its/\xs.length=its.length/\s.heap.get? l=some { cls := .type "list",data := .seq its.toArray n }:=by
 obtain ⟨z,its,n,r,e⟩:=I.hok l _ hH;exact ⟨z,its,n,r,r.length,e⟩
theorem Fg {n:Nat} (h:n<=sizeLine):Builtin.List.listTooLong n=false:=by
 unfold Builtin.List.listTooLong;exact decide_eq_false (by omega)
end
section
variable {X:Cx}
def Fi:V->List V->Hp->VK->Prop:=fun x vs H Q=>∃ l xs y,x = .ref l/\vs=[y]/\H l=some (.lst xs)/\xs.length<sizeLine/\Q .non (upd H l (.lst (xs++[y])))
theorem Wg:Fd X "list.append" Fi:=by
 intro pins s σ H x vs v us Q I rx rv h;obtain ⟨l,xs,y,rfl,rfl,hH,hz,q⟩:=h
 cases rx
 obtain ⟨u,rfl,ru⟩:=rv.one;obtain ⟨z,its,n,r,hl,e⟩:=I.jV hH;refine call_meets F.slot_list_append ⟨_,e,rfl⟩ F.entry_list_append (F.args_list_append_2 _ _) (PySem.list_append l its.toArray n u (by rw [List.size_toArray];omega)) ⟨e,?_⟩;refine ⟨.non,_,I.vD (its':=its++[u]) hH e (by simp) (r.append (.cons ru .nil)) ?_,rfl,q⟩;rw [List.length_append,List.length_singleton];omega
def SJ:V->List V->Hp->VK->Prop:=fun x vs H Q=>∃ l b xs zs,x = .ref l/\vs=[.ref b]/\H l=some (.lst xs)/\H b=some (.lst zs)/\xs.length+zs.length<=sizeLine/\Q .non (upd H l (.lst (xs++zs)))
theorem SM:Fd X "list.extend" SJ:=by
 intro pins s σ H x vs v us Q I rx rv h;obtain ⟨l,b,xs,zs,rfl,rfl,hH,hB,hz,q⟩:=h
 cases rx
 obtain ⟨u,rfl,ru⟩:=rv.one
 cases ru
 obtain ⟨z,its,n,r,hl,e⟩:=I.jV hH;obtain ⟨z2,its2,n2,r2,hl2,e2⟩:=I.jV hB;have hsz:its.toArray.size+its2.toArray.size<=sizeLine:=by rw [List.size_toArray,List.size_toArray];omega
 have oh:¬ (!its.toArray.isEmpty&&Builtin.List.listTooLong (its.toArray.size+its2.toArray.size))=true:=by
  rw [Fg hsz,Bool.and_false];exact Bool.false_ne_true
 refine call_meets F.slot_list_extend ⟨_,e,rfl⟩ F.entry_list_extend (F.args_list_extend_2 _ _)
  (AutoSeq1.list_extend_list_list_0 l its.toArray n b its2.toArray n2 oh (by rw [List.size_toArray];omega) (by omega)) ⟨e,e2,?_⟩
 refine ⟨.non,_,I.vD (its':=its++its2) hH e (by simp) (r.append r2) ?_,rfl,q⟩;rw [List.length_append];omega
def SN:V->List V->Hp->VK->Prop:=fun x vs H Q=>∃ l xs,x = .ref l/\vs=[]/\H l=some (.lst xs)/\Q .non (upd H l (.lst xs.reverse))
def vG:R2:=fun x y H Q=>∃ l b xs zs,x = .ref l/\y = .ref b/\H l=some (.lst xs)/\H b=some (.lst zs)/\xs.length+zs.length<=sizeLine/\∀ p,H p=none->Q (.ref p) (upd H p (.lst (xs++zs)))
theorem SQ:cR X (binaryOp .Add) vG:=by
 intro pins s σ H x y v u Q I rx ry h;obtain ⟨l,b,xs,zs,rfl,rfl,hH,hB,hz,q⟩:=h
 cases rx
 cases ry
 obtain ⟨z,its,n,r,hl,e⟩:=I.jV hH;obtain ⟨z2,its2,n2,r2,hl2,e2⟩:=I.jV hB;refine PySem.P.add_list e e2 ?_ (by rw [List.size_toArray,List.size_toArray];omega);have ea:its.toArray++its2.toArray=(its++its2).toArray:=by simp
 rw [ea];exact ⟨.ref _,_,I.lE (t':=s.toks) (r.append r2) (by rw [List.length_append];omega),rfl,q _ I.fresh⟩
def Om:R2:=fun x y H Q=>∃ l k xs,x = .ref l/\y = .int k/\H l=some (.lst xs) /\ -(2^63)<=k/\k<2^63/\xs.length*k.toNat<=sizeLine /\
 ∀ p,H p=none->Q (.ref p) (upd H p (.lst (List.replicate k.toNat xs).flatten))
theorem SX {α:Type} (xs:List α) (k:Nat):(List.replicate k xs).flatten.length=k*xs.length:=by
 induction k with
 | zero=>simp
 | succ k ih=>rw [List.replicate_succ,List.flatten_cons,List.length_append,ih,Nat.succ_mul,Nat.add_comm]
theorem S5:cR X (binaryOp .Mult) Om:=by
 intro pins s σ H x y v u Q I rx ry h;obtain ⟨l,k,xs,rfl,rfl,hH,h1,h2,hz,q⟩:=h
 cases rx
 obtain ⟨t,rfl⟩:=ry;obtain ⟨z,its,n,r,hl,e⟩:=I.jV hH;have hlen:its.toArray.size*k.toNat<=sizeLine:=by rw [List.size_toArray,<- hl];exact hz
 have hcap:¬ its.toArray.size*k.toNat>(2^63 - 1) / 8:=by
  have:(sizeLine:Nat)<=(2^63 - 1) / 8:=by decide
  omega
 have hfit:¬ (!Builtin.List.listFitsIndex k)=true:=by
  rw [fitsIndex_both h1 h2];exact Bool.false_ne_true
 have oh:¬ Builtin.List.listTooLong (its.toArray.size*k.toNat)=true:=by
  rw [Fg hlen];exact Bool.false_ne_true
 have hnew:List.foldl (fun x1 x2=>x1++x2) #[] (List.replicate (if its.toArray.isEmpty=true then 0 else k.toNat) its.toArray)=(List.replicate k.toNat its).flatten.toArray:=by
  have f0:∀ m:Nat,List.foldl (fun x1 x2=>x1++x2) #[] (List.replicate m its.toArray)=(List.replicate m its).flatten.toArray:=fun m=>by
   have:=Fe its m [];rw [List.nil_append] at this
   exact this
  rw [f0]
  cases its with
  | nil=>simp
  | cons a r'=>rw [if_neg (by simp)]
 refine wpAny_binaryOp_repeat_ref (T:="list") (U:="int") (by decide) ⟨_,e,rfl⟩ (fun s'=>typeIs_int s' k t) noFill_list_mul F.fills_int_mul F.slot_int_rmul repeat_list F.slot_int_index.lookup
  (call_meets F.slot_int_rmul (typeIs_int s k t) F.entry_int_rmul (F.args_int_rmul_2 _ _) (int___rmul___int_list k t l its.toArray n)
   ⟨e,rfl,⟨_,e,rfl⟩,call_meets F.slot_list_mul ⟨_,e,rfl⟩ F.entry_list_mul (F.args_list_mul_2 _ _) (AutoListH.list___mul___list_int_3 l its.toArray n k t hfit hcap oh) ⟨e,?_⟩⟩)
 rw [hnew];exact ⟨.ref _,_,I.lE (t':=s.toks) (r.rep k.toNat) (by rw [SX,Nat.mul_comm];exact hz),rfl,q _ I.fresh⟩
end
end L2
namespace Fj
open PySem PySem.W PySem.Calls PyProof.Rows
theorem Qx {P:Params} {h:Heap}:∀ (ns:List Int) (vs:List Value),WellAll P h vs (ns.map WData.int)->IntsAre vs ns:=by
 intro ns
 induction ns with
 | nil =>
  intro vs w;rw [List.map_nil] at w
  cases w
  exact .nil
 | cons n ns ih =>
  intro vs w;rw [List.map_cons] at w
  cases w with
  | cons a b =>
   cases a
   exact .cons _ _ (ih _ b)
theorem S6 {l:OpenLaw} {n:Nat} (hn:l.most=some n) {P:Params} {h:Heap} {args:List WData} {vals:List Value}
  (hpre:l.row.toRowW.claim.pre args=true) (hwl:WellAll P h vals args) :
  ∃ a vs ns,vals=[Value.ref a]/\args=[WData.list (ns.map WData.int)]/\h.get? a=some { cls := .type "list",data := .seq vs.toArray }/\IntsAre vs ns/\ns.length<=n:=by
 have hsh:WShape.hasAll [] args [.list .int]=true:=(pre_splitW hpre).1;have hc:l.pre.holds [] { args:=args }=true:=(pre_splitW hpre).2;obtain ⟨d,r,rfl,h1,h2⟩:=hasAllW_cons hsh;obtain rfl:=hasAllW_nil h2;obtain ⟨xs,rfl,h3⟩:=hasW_list h1;obtain ⟨ns,rfl⟩:=items_int h3;have hlen:ns.length<=n:=by
  unfold OpenLaw.pre at hc;have h4:(WTm.not (.lt (.lit (.int (n:Int))) (.len (.arg 0)))).holds [] { args:=[.list (ns.map .int)] }=true:=by
   have h4:=(holds_andW hc).1;rw [hn] at h4
   exact h4
  have h5:=condW_of h4 (w_not (w_lt w_lit (w_len_list (w_arg rfl))));rw [List.length_map] at h5
  refine Nat.le_of_not_lt fun q=>?_
  have q':(n:Int)<((ns.length:Nat):Int):=by omega
  first
   | (rw [decide_eq_true q'] at h5;exact absurd h5 (by decide))
   | (simp at h5;omega)
 cases hwl with
 | cons w1 w2 =>
  cases w2
  cases w1 with
  | list ho hall=>exact ⟨_,_,ns,rfl,rfl,ho,Qx ns _ hall,hlen⟩
theorem S7 (l:OpenLaw) (args:List WData):l.row.toRowW.claim.post args (.bool true) args=true :=
 postW_of (r:=l.row.toRowW) (X:=(true==true))
  (show WShape.has [] (.bool true) .bool=true by first | rfl | decide | simp [WShape.has,WShape.arms,WShape.armsAll])
  (show (WTm.eq .res (.lit (.bool true))).value [] { args:=args,res:=some (.bool true),after:=args }=some (.bool (true==true)) from w_eq_bool (w_res rfl) w_lit) rfl
theorem mH {l:OpenLaw} {n:Nat} {q:Program} {loose:List Str} {XP:(Str->Option Value)->Heap->Prop} {YP:World->Heap->Prop} {d:DefRec}
  (hn:l.most=some n) (hdf:d.params.defaults=[])
  (call:∀ (w:World) (s₀ s₁:Shared) (mg mb:Str->Option Value) (fa:Addr) (o:Obj) (pm cd doc:Value) (a:Addr) (vs:List Value) (ns:List Int),
   Ground q loose [] XP w s₀ mg mb s₁.heap->YP w s₁.heap ->
   s₁.heap.get? fa=some o->o.data = .func (docDef d.name d.params d.body d.scope pm cd doc)->s₁.heap.CodeRec cd d.name->mg d.name=some (.ref fa) ->
   s₁.heap.get? a=some { cls := .type "list",data := .seq vs.toArray }->IntsAre vs ns->ns.length<=n->s₁.gens=#[] ->
   codeAny (model l.prog w) callerA (.call (.ref fa) ⟨[.ref a],[]⟩) (fun r s'=>r = .ok (.ret (.bool true))/\OldK s₁.heap s'.heap/\s'.os=s₁.os/\AllBare s'.gens) s₁) :
  WalkO q loose XP YP l.row.toRowW d [] (fun f vs=>PySem.call f vs):=by
 intro w s₀ s₁ mg mb G Y fa o pm cd doc dV kV ho hd hcd hD hmg hg args vals as hpre hlay hrd hwl hlo;obtain rfl:dV = .none:=Dflts.none hD hdf;obtain rfl:kV = .none:=Dflts.noKw hD;obtain ⟨a,vs,ns,rfl,rfl,hobj,hints,hlen⟩:=S6 hn hpre hwl;refine enter_call (codeAny_mono (call w s₀ s₁ mg mb fa o pm cd doc a vs ns G Y ho (fd_plain hd) hcd hmg hobj hints hlen hg) fun r s' hq=>?_);obtain ⟨rfl,h2,h3,h4⟩:=hq;exact ⟨.inl ⟨.bool true,.bool true,[],rfl,fun _=>rfl,.bool true,S7 l _,fun _=>⟨List.Pairwise.nil,fun _ hm=>(nomatch hm)⟩⟩,h2,h3,h4⟩
section
variable {prog:Program} {w:World} {A:Around} {E:Value->Shared->Prop} {s:Shared} {K:Frag}
def ledger (h:Heap) (L d:Addr):List (Addr×Obj):=(List.range h.objs.size).filterMap fun a=>if a=L\/a=d then none else (h.get? a).map fun o=>(a,o)
end
end Fj
namespace L2
open PySem PySem.Spec PyProof.Rows
theorem Fl:∀ {vs:List Value} {ns:List Int},IntsAre vs ns->Yu (ns.map V.int) vs
 | _,_,.nil => .nil
 | _,_,.cons n t h => .cons ⟨t,rfl⟩ (Fl h)
def Only (H:Hp):Prop:=∀ b,H b=none\/∃ o xs,H b=some (.gG o (.lst xs))
theorem S8 {P:Program} {w:World} {K:PySem.W.Frag} {mg mb:Str->Option Value} {CX:gP} {k:Nat} {fa a:Addr} {fd:FuncData} {x:Str} {sp:Sp} {s₁:Shared} {vs:List Value} {ns:List Int}
  (KX:K.In s₁.heap) (hns:s₁.heap.Ns mainGlobals mg) (hb:s₁.heap.Ns builtinsNs mb) (hbb:∀ x:Str,x≠"__name__"->mb x=bootBuiltins x) (hlim:s₁.heap.NoLimit) (hg:s₁.gens=#[])
  (ha:s₁.heap.get? a=some { cls := .type "list",data := .seq vs.toArray }) (hi:IntsAre vs ns) (hl:ns.length<=sizeLine) (hr:aR k callerA)
  (F:∀ base:Heap,K.In base->base.Ns mainGlobals mg->dZ P w K mg base CX k fa fd [x] sp) (hbind:∀ (s:Shared) (u:Value),BindsTo s fd ⟨[u],[]⟩ [(x,u)])
  (hsp:∀ H:Hp,Only H->au K H a (ns.map V.int)->sp [.ref a] H (fun v _=>v = .bl true) fun _ _ _=>False)
  (vH:∀ H e s',CX [] H s₁ (fun _ _ _=>False) e s'->False) :
  codeAny (model P w) callerA (.call (.ref fa) ⟨[.ref a],[]⟩) (fun r s'=>r = .ok (.ret (.bool true))/\OldK s₁.heap s'.heap/\s'.os=s₁.os/\AllBare s'.gens) s₁:=by
 have rv:=Fl hi;have lenV:=hi.length
 -- from an abstract heap in which nothing but the script may be tracked
 have core:∀ H:Hp,Only H->au K H a (ns.map V.int)->cj P w H s₁.heap->(∀ b,H b≠none->b=a)->(H a≠none->K.lookup a=none) ->
   codeAny (model P w) callerA (.call (.ref fa) ⟨[.ref a],[]⟩) (fun r s'=>r = .ok (.ret (.bool true))/\OldK s₁.heap s'.heap/\s'.os=s₁.os/\AllBare s'.gens) s₁:=by
  intro H hO hS hok hA hK;have nu:∀ {b:Addr} {o:Obj},s₁.heap.get? b=some o->H b=none->(VY s₁.heap H).get? b=some o:=fun e n=>Rc e n
  have oZ:∀ {b:Addr} {o:Obj} {es:Array DictEntry} {ep:Nat},s₁.heap.get? b=some o->o.data = .dict es ep->H b=none:=fun {b o es ep} e d=>by
   cases q:H b with
   | none=>rfl
   | some u =>
    have e':b=a:=hA b (by rw [q];simp);subst e';rw [ha] at e;cases e
    have d':Data.seq vs.toArray _=Data.dict es ep:=d
    cases d'
  have rR:∀ {b:Addr} {m:Str->Option Value},s₁.heap.Ns b m->(VY s₁.heap H).Ns b m:=fun {b m} ⟨o,es,ep,e,d,r⟩=>⟨o,es,ep,nu e (oZ e d),d,r⟩
  have Fo:K.In (VY s₁.heap H):=fun b o e=>nu (KX b o e) (by
   cases q:H b with
   | none=>rfl
   | some u =>
    have e':b=a:=hA b (by rw [q];simp);subst e';rw [hK (by rw [q];simp)] at e;cases e)
  have hM:Mod K mg (VY s₁.heap H):=⟨Fo,rR hns,⟨mb,rR hb,hbb⟩,let ⟨mc,h1,h2⟩:=hlim;⟨mc,rR h1,h2⟩⟩;have e0:jB P w K mg (VY s₁.heap H) callerA [] s₁ H:=⟨rfl,hM,fun b o e=>Rf e,Nat.le_of_eq (Rb _ _),trivial,fun b hb=>absurd (show b∈([]:List Addr) from hb) (by simp),hok,.of_eq hg⟩;refine codeAny_mono ((F _ Fo (rR hns)).run callerA [] s₁ H ⟨[.ref a],[]⟩ [.ref a] [.ref a] _ _ hr e0 (hbind s₁ (.ref a)) (.cons rfl .nil) (hsp H hO hS)) fun r s' h=>?_
  cases r with
  | error e=>exact (vH H e s' h).elim
  | ok fl =>
   cases fl with
   | next=>exact False.elim h
   | brk=>exact False.elim h
   | cont=>exact False.elim h
   | ret u =>
    obtain ⟨v,H',os,bare,un,hok',r',q⟩:=h;have q':v = .bl true:=q;subst q';obtain rfl:u=Value.bool true:=r';refine ⟨rfl,OldK.of_keep fun b o e=>?_,os,bare⟩
    cases q:H b with
    | none=>exact un.keep b o e q (by intro z;exact absurd (show b∈([]:List Addr) from z) (by simp)) (by simp)
    | some u =>
     rcases hO b with z | ⟨ob,xs,z⟩
     ·rw [q] at z;cases z
     ·have z2:=un.dB b ob _ z
      obtain ⟨e1,_⟩:=hok b _ z;obtain ⟨e2,_⟩:=hok' b _ z2;rw [e] at e1;cases e1
      exact e2
 cases hk:K.lookup a with
 | some o =>
  -- the script is one of the module's own objects
  have e:=KX a o hk;rw [ha] at e
  cases e
  refine core (fun _=>none) (fun _ => .inl rfl) (.inr ⟨_,vs.toArray,_,hk,rfl,rfl,rfl,by rw [List.size_toArray,lenV];exact hl,by simpa using rv⟩) (fun b u z=>by have z':(none:Option HO)=some u:=z;cases z') (fun b z=>absurd rfl z) fun z=>absurd rfl z
 | none =>
  refine core (fun b=>if b=a then some (.gG { cls := .type "list",data := .seq vs.toArray } (.lst (ns.map V.int))) else none) (fun b=>?_) (.inl (.inr ⟨{ cls := .type "list",data := .seq vs.toArray },if_pos rfl⟩)) (fun b u z=>?_) (fun b z=>?_) fun _=>hk
  ·by_cases hb:b=a
   ·exact .inr ⟨_,_,if_pos hb⟩
   ·exact .inl (if_neg hb)
  ·by_cases hb:b=a
   ·have z':=(if_pos hb).symm.trans z
    cases z'
    subst hb;exact ⟨ha,by rw [List.length_map];exact hl,vs,_,rv,ha⟩
   ·have z':=(if_neg hb).symm.trans z
    cases z'
  ·by_cases hb:b=a
   ·exact hb
   ·exact absurd (if_neg hb) z
theorem S9 {l:PySem.W.OpenLaw} {n k:Nat} {q:Program} {loose:List Str} {XP:(Str->Option Value)->Heap->Prop} {YP:World->Heap->Prop} {d:DefRec} {K:Params->PySem.W.Frag} {CX:World->gP} {sp:World->Sp} {x:Str}
  (hn:l.most=some n) (hn2:n<=sizeLine) (hdf:d.params.defaults=[]) (hr:aR k callerA)
  (hY:∀ (w:World) (h:Heap),YP w h->(K w.params).In h)
  (F:∀ (w:World) (mg:Str->Option Value) (fa:Addr) (h:Heap),(K w.params).In h->h.Ns mainGlobals mg->mg d.name=some (.ref fa) ->
   ∃ fd:FuncData,(∀ (s:Shared) (u:Value),BindsTo s fd ⟨[u],[]⟩ [(x,u)]) /\
    ∀ base:Heap,(K w.params).In base->base.Ns mainGlobals mg->dZ l.prog w (K w.params) mg base (CX w) k fa fd [x] (sp w))
  (hsp:∀ (w:World) (H:Hp) (a:Addr) (ns:List Int),ns.length<=n->Only H->au (K w.params) H a (ns.map V.int)->sp w [.ref a] H (fun v _=>v = .bl true) fun _ _ _=>False)
  (vH:∀ (w:World) (H:Hp) (s:Shared) (e:Value) (s':Shared),CX w [] H s (fun _ _ _=>False) e s'->False) :
  PySem.W.WalkO q loose XP YP l.row.toRowW d [] (fun f vs=>PySem.call f vs):=by
 refine Fj.mH hn hdf fun w s₀ s₁ mg mb fa o pm cd doc a vs ns G Y ho hd hcd hmg hobj hints hlen hg=>?_
 have KX:=hY w _ Y;obtain ⟨fd,hb,hF⟩:=F w mg fa _ KX G.T.g hmg;exact S8 KX G.T.g G.T.b G.T.builtins G.T.nolimit hg hobj hints (Nat.le_trans hlen hn2) hr hF hb (fun H hO hS=>hsp w H a ns hlen hO hS) fun H e s'=>vH w H s₁ e s'
def Wh (s:Stmt) (j:Nat):Stmt:=match s with
 | .ClassDef _ _ _ body _ _ _ _ _ _ _=>body.getD j (.Pass ⟨0,0,0,0⟩)
 | _ => .Pass ⟨0,0,0,0⟩
def Xo (s:Stmt):Arguments:=match s with
 | .FunctionDef _ a _ _ _ _ _ _ _ _=>a
 | _=>{ posonlyargs:=[],args:=[],vararg:=none,kwonlyargs:=[],kw_defaults:=[],kwarg:=none,defaults:=[] }
def Xa (s:Stmt):List Stmt:=match s with
 | .FunctionDef _ _ b _ _ _ _ _ _ _=>b
 | _=>[]
def Yh (s:Stmt):Scope:=match s with
 | .FunctionDef _ _ _ _ _ _ sc _ _ _=>sc
 | _=>{ kind := .function,names:=[],isGenerator:=false,isCoroutine:=false }
abbrev jH:gP:=fun _ _ _ _ _ _=>False
abbrev E0:XK:=fun _ _ _=>False
theorem Qy {X:Cx}:XL jH X E0:=fun _ _ _ _ _ _ _ h=>h.elim
structure jw (K:W.Frag) (x qual:Str) (st:Stmt) (f:Addr) (fd:FuncData):Prop where
 ex:∃ (oc:Value) (od:Option Addr) (kV doc pm:Value) (an:Option Addr) (cdv ct:Value) (osl:Array (Option Value)),
  fd=W.fnOf x qual (Xo st) (Xa st) (Yh st) .none kV doc pm an cdv ct/\K.lookup f=some ⟨oc,od,.func fd,osl⟩/\W.codeIn K cdv qual=true
 kp:W.keepIn K (.ref f)=true
section
variable {P:Program} {w:World} {K:W.Frag} {mg:Str->Option Value} {base:Heap}
theorem jw.ok {x qual:Str} {st:Stmt} {f:Addr} {fd:FuncData} {N ps:List Str} {k:Nat} {sp:Sp} (F:jw K x qual st f fd) (S:aq N ps (Yh st)) (len:∀ vs H Q E,sp vs H Q E->vs.length=ps.length)
  (hbody:∀ (cdv:Value) (A:Around) (outer:List Env) (s:Shared) (H:Hp) (vs:List V) (Q:VK) (E:XK),aR k (A.deeper (envOfC qual (Yh st) s.heap.objs.size f cdv))->sp vs H Q E ->
   ∃ t,gn (VJ jH P w K mg base N qual (Yh st) f cdv A outer s H E).cO (Xa st) t/\t { nx:=fun _ H'=>Q .non H',rt:=Q } (Wc N vs) H):dZ P w K mg base jH (k+1) f fd ps sp:=by
 obtain ⟨oc,od,kV,doc,pm,an,cdv,ct,osl,rfl,lk,hcd⟩:=F.ex;refine vh lk hcd S len fun A outer s H vs Q E hr hsp=>?_
 obtain ⟨t,h,q⟩:=hbody cdv A outer s H vs Q E hr hsp;exact ⟨t,h.cO,q⟩
theorem jw.binds {x qual:Str} {st:Stmt} {f:Addr} {fd:FuncData} {ps:List Str} (F:jw K x qual st f fd)
  (h:∀ (kV doc pm:Value) (an:Option Addr) (cdv ct:Value) (us:List Value),us.length=ps.length->bindArgs (PySem.W.fnOf x qual (Xo st) (Xa st) (Yh st) .none kV doc pm an cdv ct) ⟨us,[]⟩=pure (ps.zip us)):Xn K fd ps []:=by
 obtain ⟨oc,od,kV,doc,pm,an,cdv,ct,osl,rfl,lk,hcd⟩:=F.ex;exact .all (h kV doc pm an cdv ct)
theorem Ut {x qual:Str} {st:Stmt} {f:Addr} {oc:Value} {od an:Option Addr} {osl:Array (Option Value)} {kV doc pm cdv ct:Value} (l:K.lookup f=some ⟨oc,od,.func (W.fnOf x qual (Xo st) (Xa st) (Yh st) .none kV doc pm an cdv ct),osl⟩)
  (c:W.codeIn K cdv qual=true) (k:W.keepIn K (.ref f)=true):jw K x qual st f (W.fnOf x qual (Xo st) (Xa st) (Yh st) .none kV doc pm an cdv ct):=⟨⟨oc,od,kV,doc,pm,an,cdv,ct,osl,rfl,l,c⟩,k⟩
end
theorem UV {A:Around} {k:Nat} (hr:aR k A):A.units+1<cLine:=Nat.lt_of_le_of_lt (Nat.add_le_add_left (by decide:1<=64) _) hr.units
section
variable {X:Cx}
theorem pv (i:Nat) {x:Str} {pos:Pos} (hN:X.N[i]?=some x:=by rfl) (hv:j7 X.env.scope x:=by first | exact .inl rfl | exact .inr (.inl rfl) | exact .inr (.inr rfl)) (hd:(x==("__debug__":Str))=false:=by decide)
  (hcd:(x==("__classdict__":Str))=false:=by decide):PE X (.Name x pos) (VH i):=Rj hN hv hd hcd
end
theorem Uu {A B:Prop} (h:B):if false=true then A else B:=by
 rw [if_neg Bool.false_ne_true];exact h
theorem pq {A B:Prop} (h:A):if true=true then A else B:=by
 rw [if_pos rfl];exact h
theorem Yw {c A B:Prop} [Decidable c] (h1:c->A) (h2:¬ c->B):if c then A else B:=by
 by_cases h:c
 ·rw [if_pos h]
  exact h1 h
 ·rw [if_neg h]
  exact h2 h
theorem BX {c A B:Prop} [Decidable c] (hc:c) (h:B):if (!decide c)=true then A else B:=by
 rw [decide_eq_true hc];exact Uu h
def Same (H H':Hp):Prop:=∀ b o,H b=some o->H' b=some o
theorem Same.refl (H:Hp):Same H H:=fun _ _ h=>h
theorem Same.trans {H H1 H2:Hp} (a:Same H H1) (b:Same H1 H2):Same H H2:=fun c o h=>b c o (a c o h)
theorem Same.free {H H':Hp} (e:Same H H') {l:Addr} (h:H' l=Option.none):H l=Option.none:=by
 cases q:H l with
 | none=>rfl
 | some o =>
  rw [e l o q] at h
  cases h
theorem Same.seq {K:W.Frag} {H H':Hp} {a:Addr} {xs:List V} (e:Same H H') (h:au K H a xs):au K H' a xs:=by
 rcases h with (h | ⟨o,h⟩) | h
 ·exact .inl (.inl (e _ _ h))
 ·exact .inl (.inr ⟨o,e _ _ h⟩)
 ·exact .inr h
section
variable {κ:Type} [DecidableEq κ]
def Xh (kvs:List (κ×V)) (k:κ):Option V:=(kvs.find? fun kv=>decide (kv.1=k)).map (·.2)
def X2 (kvs:List (κ×V)) (k:κ) (v:V):List (κ×V) :=
 if (kvs.any fun kv=>decide (kv.1=k))=true then kvs.map (fun kv=>if kv.1=k then (kv.1,v) else kv) else kvs++[(k,v)]
theorem Xz {p:κ×V} {r:List (κ×V)} {k:κ} (e:p.1=k):Xh (p::r) k=some p.2:=by simp [Xh,List.find?_cons,e]
theorem XA {p:κ×V} {r:List (κ×V)} {k:κ} (e:¬ p.1=k):Xh (p::r) k=Xh r k:=by simp [Xh,List.find?_cons,e]
theorem V4 (k:κ):∀ kvs:List (κ×V),(kvs.any fun kv=>decide (kv.1=k))=(Xh kvs k).isSome
 | []=>rfl
 | p::r=>by
  rw [List.any_cons];by_cases e:p.1=k
  ·simp only [Xz e,decide_eq_true e,Bool.true_or,Option.isSome_some]
  ·rw [XA e,decide_eq_false e,Bool.false_or];exact V4 k r
theorem Fp (k j:κ) (y:V):∀ kvs:List (κ×V),Xh (kvs.map fun kv=>if kv.1=k then (kv.1,y) else kv) j=(Xh kvs j).map fun x=>if j=k then y else x
 | []=>rfl
 | p::r=>by
  have ih:=Fp k j y r;rw [List.map_cons];by_cases h:p.1=k
  ·rw [if_pos h]
   by_cases e:p.1=j
   ·rw [Xz (p:=(p.1,y)) e,Xz e,Option.map_some,if_pos (e.symm.trans h)]
   ·rw [XA (p:=(p.1,y)) e,XA e,ih]
  ·rw [if_neg h]
   by_cases e:p.1=j
   ·rw [Xz (p:=p) e,Xz e,Option.map_some,if_neg (fun z=>h (e.trans z))]
   ·rw [XA (p:=p) e,XA e,ih]
theorem Fq (k j:κ) (y:V):∀ kvs:List (κ×V),Xh kvs k=none->Xh (kvs++[(k,y)]) j=if j=k then some y else Xh kvs j
 | [],_=>by
  by_cases e:k=j
  ·rw [if_pos e.symm];exact Xz (p:=(k,y)) e
  ·rw [if_neg (fun z=>e z.symm)];exact XA (p:=(k,y)) e
 | p::r,hn=>by
  rw [List.cons_append];have hk:¬ p.1=k:=fun z=>by rw [Xz z] at hn;cases hn
  rw [XA hk] at hn
  have ih:=Fq k j y r hn;by_cases e:p.1=j
  ·rw [Xz e,Xz e,if_neg (fun z=>hk (e.trans z))]
  ·rw [XA e,XA e,ih]
theorem Qj (kvs:List (κ×V)) (k j:κ) (y:V):Xh (X2 kvs k y) j=if j=k then some y else Xh kvs j:=by
 unfold X2;by_cases a:(kvs.any fun kv=>decide (kv.1=k))=true
 ·rw [if_pos a,Fp]
  rw [V4] at a
  by_cases e:j=k
  ·obtain ⟨x,hx⟩:=Option.isSome_iff_exists.mp a
   rw [if_pos e,e,hx,Option.map_some,if_pos rfl]
  ·rw [if_neg e]
   cases Xh kvs j with
   | none=>rfl
   | some x=>rw [Option.map_some,if_neg e]
 ·rw [if_neg a]
  refine Fq k j y kvs ?_;rw [V4] at a
  cases q:Xh kvs k with
  | none=>rfl
  | some x=>rw [q] at a;exact (a rfl).elim
theorem Qe (kvs:List (κ×V)) (k:κ) (v:V):(X2 kvs k v).length<=kvs.length+1:=by
 unfold X2
 split
 ·rw [List.length_map];omega
 ·rw [List.length_append,List.length_cons,List.length_nil];omega
theorem XH.pA {o:Option V} {u:Option Value} (r:XH o u):o.isSome=u.isSome:=by
 cases o with
 | none=>cases u with
  | none=>rfl
  | some _=>exact (show False from r).elim
 | some _=>cases u with
  | none=>exact (show False from r).elim
  | some _=>rfl
theorem KV.val {kvs:List (κ×V)} {vs:List (κ×Value)} (r:KV kvs vs) (k:κ):XH (Xh kvs k) (valueAt vs k):=by
 unfold KV at r
 induction r with
 | nil=>exact True.intro
 | @cons p q ps qs h t ih =>
  obtain ⟨h1,h2⟩:=h;by_cases e:p.1=k
  ·have e':q.1=k:=h1.symm.trans e
   have b:valueAt (q::qs) k=some q.2:=by simp [valueAt,List.find?_cons,e']
   rw [Xz e,b];exact h2
  ·have e':¬ q.1=k:=fun z=>e (h1.trans z)
   have b:valueAt (q::qs) k=valueAt qs k:=by simp [valueAt,List.find?_cons,e']
   rw [XA e,b];exact ih
theorem KV.any {kvs:List (κ×V)} {vs:List (κ×Value)} (r:KV kvs vs) (k:κ):(kvs.any fun kv=>decide (kv.1=k))=vs.any fun kv=>decide (kv.1=k):=by
 unfold KV at r
 induction r with
 | nil=>rfl
 | cons h t ih=>rw [List.any_cons,List.any_cons,ih,h.1]
theorem KV.repl {kvs:List (κ×V)} {vs:List (κ×Value)} (r:KV kvs vs) (k:κ) {y:V} {u:Value} (ry:YC y u) :
  KV (kvs.map fun kv=>if kv.1=k then (kv.1,y) else kv) (vs.map fun kv=>if kv.1=k then (kv.1,u) else kv):=by
 unfold KV at r ⊢
 induction r with
 | nil=>exact .nil
 | @cons p q ps qs h t ih =>
  rw [List.map_cons,List.map_cons];refine .cons ?_ ih;obtain ⟨h1,h2⟩:=h;by_cases e:p.1=k
  ·rw [if_pos e,if_pos (h1.symm.trans e)];exact ⟨h1,ry⟩
  ·rw [if_neg e,if_neg (fun z=>e (h1.trans z))];exact ⟨h1,h2⟩
theorem KV.put {kvs:List (κ×V)} {vs:List (κ×Value)} (r:KV kvs vs) (k:κ) {y:V} {u:Value} (ry:YC y u):KV (X2 kvs k y) (stored vs k u):=by
 unfold X2 stored;rw [r.any k];by_cases e:(vs.any fun kv=>decide (kv.1=k))=true
 ·rw [if_pos e,if_pos e];exact r.repl k ry
 ·rw [if_neg e,if_neg e];exact Paired.snoc r ⟨rfl,ry⟩
theorem KV.length {kvs:List (κ×V)} {vs:List (κ×Value)} (r:KV kvs vs):kvs.length=vs.length:=Paired.length r
end
theorem vI {P:Program} {w:World} {k:Key} {u:Value} (r:YC (kV k) u):(Xx P w).is k u=true:=by
 cases k with
 | inl i=>obtain ⟨t,e⟩:=(show ∃ t,u=Value.int i t from r);subst e;exact P0 P w i t
 | inr x=>obtain ⟨t,e⟩:=(show ∃ t,u=Value.str x t from r);subst e;exact Ra P w x t
theorem Ft {P:Program} {w:World}:∀ {ks:List Key} {us:List Value},Yu (ks.map kV) us->ItemsAre (Xx P w) ks us
 | [],_,r=>by rw [List.map_nil] at r;cases r;exact .nil
 | k::ks,_,r=>by
  rw [List.map_cons] at r
  cases r with
  | cons h t=>exact .cons (vI h) (Ft t)
abbrev KT (H:Hp):List (List Key×V)->List (List Key×Addr×Value)->Prop:=Paired fun p q=>p.1=q.1/\H q.2.1=some (.tup (p.1.map kV))/\YC p.2 q.2.2
theorem KT.val {H:Hp} {kvs:List (List Key×V)} {xs:List (List Key×Addr×Value)} (r:KT H kvs xs) (k:List Key):XH (Xh kvs k) ((atKey xs k).map (·.2)):=by
 induction r with
 | nil=>exact True.intro
 | @cons p q ps qs h t ih =>
  obtain ⟨h1,_,h2⟩:=h;by_cases e:p.1=k
  ·have e':q.1=k:=h1.symm.trans e
   have b:atKey (q::qs) k=some q.2:=by simp [atKey,List.find?_cons,e']
   rw [Xz e,b];exact h2
  ·have e':¬ q.1=k:=fun z=>e (h1.trans z)
   have b:atKey (q::qs) k=atKey qs k:=by simp [atKey,List.find?_cons,e']
   rw [XA e,b];exact ih
theorem KT.repl {H:Hp} {kvs:List (List Key×V)} {xs:List (List Key×Addr×Value)} (r:KT H kvs xs) (k:List Key) {y:V} {u:Value} (ry:YC y u) :
  KT H (kvs.map fun kv=>if kv.1=k then (kv.1,y) else kv) (xs.map (putAt k u)):=by
 induction r with
 | nil=>exact .nil
 | @cons p q ps qs h t ih =>
  rw [List.map_cons,List.map_cons];refine .cons ?_ ih;obtain ⟨h1,h2,h3⟩:=h;unfold putAt;by_cases e:p.1=k
  ·rw [if_pos e,if_pos (h1.symm.trans e)];exact ⟨h1,h2,ry⟩
  ·rw [if_neg e,if_neg (fun z=>e (h1.trans z))];exact ⟨h1,h2,h3⟩
theorem KT.put {H:Hp} {kvs:List (List Key×V)} {xs:List (List Key×Addr×Value)} (r:KT H kvs xs) (k:List Key) {b:Addr} {y:V} {u:Value} (hb:H b=some (.tup (k.map kV))) (ry:YC y u) :
  KT H (X2 kvs k y) (storedH xs k b u):=by
 have e:(kvs.any fun kv=>decide (kv.1=k))=(atKey xs k).isSome:=by
  rw [V4,(r.val k).pA,Option.isSome_map]
 unfold X2 storedH;rw [e];by_cases q:(atKey xs k).isSome=true
 ·rw [if_pos q,if_pos q];exact r.repl k ry
 ·rw [if_neg q,if_neg q];exact Paired.snoc r ⟨rfl,hb,ry⟩
theorem KT.keeps {H H':Hp} {kvs:List (List Key×V)} {xs:List (List Key×Addr×Value)} (r:KT H kvs xs) (ht:∀ b ys,H b=some (.tup ys)->H' b=some (.tup ys)):KT H' kvs xs :=
 Paired.qy r fun _ _ z=>⟨z.1,ht _ _ z.2.1,z.2.2⟩
section
variable {P:Program} {w:World} {H:Hp} {h:Heap} {a:Addr}
theorem Fv {u:HO} (ok:cj P w H h) (e:Rd H a u):YS P w H h a u:=e.ok ok
theorem vJ {kvs:List (Key×V)} (ok:cj P w H h) (e:Rd H a (.dK kvs)):kvs.length<=sizeLine/\(a==sysModules)=false/\∃ vs,KV kvs vs/\h.DictOf (Xx P w) a vs :=
 show YS P w H h a (.dK kvs) from Fv ok e
theorem BZ {kvs:List (Key×V)} (ok:cj P w H h) (e:H a=some (.dK kvs)):kvs.length<=sizeLine/\(a==sysModules)=false/\∃ vs,KV kvs vs/\h.DictOf (Xx P w) a vs:=vJ ok (.inl e)
theorem vK {ks:List Key} (ok:cj P w H h) (e:H a=some (.tup (ks.map kV))):(tupleKind (Xx P w)).is h ks a:=by
 obtain ⟨_,its,r,o,h1,h2,n,h3⟩:=(show YS P w H h a (.tup (ks.map kV)) from ok a _ e);exact ⟨o,its.toArray,n,h1,h2,h3,by simpa using Ft r⟩
theorem vL {kvs:List (List Key×V)} (ok:cj P w H h) (e:Rd H a (.dT kvs)):kvs.length<=sizeLine/\(a==sysModules)=false /\
  ∃ xs,KT H kvs xs/\h.DictOfH (tupleKind (Xx P w)) a xs:=by
 obtain ⟨z,y,xs,r,o,es,ep,h1,h2,h3,h4,h5⟩:=(show YS P w H h a (.dT kvs) from Fv ok e);refine ⟨z,y,xs,r,o,es,ep,h1,h2,h3,h4,fun x hx=>?_,h5⟩;have all:∀ {l:List (List Key×V)} {m:List (List Key×Addr×Value)},KT H l m->∀ x∈m,(tupleKind (Xx P w)).is h x.1 x.2.1:=by
  intro l m q
  induction q with
  | nil=>intro x hx;exact nomatch hx
  | @cons p q ps qs hq t ih =>
   intro x hx;rcases List.mem_cons.mp hx with e | hx
   ·subst e
    exact vK ok (by rw [<- hq.1];exact hq.2.1)
   ·exact ih x hx
 exact all r x hx
theorem Ca {kvs:List (List Key×V)} (ok:cj P w H h) (e:H a=some (.dT kvs)):kvs.length<=sizeLine/\(a==sysModules)=false /\
  ∃ xs,KT H kvs xs/\h.DictOfH (tupleKind (Xx P w)) a xs:=vL ok (.inl e)
end
def Qk (H:Hp) (a:Addr) (y:V) (r:Option V):Prop :=
 (∃ kvs k,Rd H a (.dK kvs)/\y=kV k/\r=Xh kvs k)\/∃ kvs k b,Rd H a (.dT kvs)/\y = .ref b/\H b=some (.tup (k.map kV))/\r=Xh kvs k
def Q1 (H:Hp) (a:Addr) (y v:V) (H':Hp):Prop :=
 (∃ kvs k,H a=some (.dK kvs)/\y=kV k/\kvs.length<sizeLine/\H'=upd H a (.dK (X2 kvs k v))) \/
 ∃ kvs k b,H a=some (.dT kvs)/\y = .ref b/\H b=some (.tup (k.map kV))/\kvs.length<sizeLine/\H'=upd H a (.dT (X2 kvs k v))
theorem Qk.k {H:Hp} {a:Addr} {kvs:List (Key×V)} {k:Key} (e:H a=some (.dK kvs)):Qk H a (kV k) (Xh kvs k) := .inl ⟨kvs,k,.inl e,rfl,rfl⟩
theorem Q1.k {H:Hp} {a:Addr} {kvs:List (Key×V)} {k:Key} {v:V} (e:H a=some (.dK kvs)) (hl:kvs.length<sizeLine):Q1 H a (kV k) v (upd H a (.dK (X2 kvs k v))) := .inl ⟨kvs,k,e,rfl,hl,rfl⟩
section
variable {X:Cx} {pins:List (Addr×Obj)} {σ:St} {H:Hp} {s:Shared} {a:Addr} {y v:V} {u r:Value} {o:Option V} {A:Around} {E:Value->Shared->Prop}
theorem Tc {Q:Value->Shared->Prop} (hu:A.units+1<cLine) (I:Inv X pins σ H s) (g:Qk H a y (some v)) (ry:YC y u) (h:∀ w' s',Inv X pins σ H s'->YC v w'->Q w' s') :
  wpAny (model X.prog X.w) A (getItem (.ref a) u) Q E s:=by
 rcases g with ⟨kvs,k,e,ey,l⟩ | ⟨kvs,k,b,e,ey,eb,l⟩
 ·subst ey
  obtain ⟨z,hd,vs,rel,dd⟩:=vJ I.hok e;obtain ⟨w',hw,g8⟩:=XH.some_of (v:=v) (o:=valueAt vs k) (by rw [l];exact rel.val k);exact wpAny_getItem_of (vI ry) dd.mapOf hw (h w' _ (I.tok _) g8)
 ·subst ey
  cases (show u=Value.ref b from ry)
  obtain ⟨z,hd,xs,rel,dd⟩:=vL I.hok e;obtain ⟨w',hw,g8⟩:=XH.some_of (v:=v) (o:=(atKey xs k).map (·.2)) (by rw [l];exact rel.val k);obtain ⟨p,hp,hp2⟩:=Option.map_eq_some_iff.mp hw;refine wpAny_getItem_heap (tupleKind_room_in1 hu) (vK I.hok eb) dd hp ?_;rw [hp2];exact h w' _ (I.tok _) g8
theorem Fw {h':Heap} {t':Nat} {ob:HO} (I:Inv X pins σ H s) (mu:oR (H a)) (hs:Heap.SameBut a s.heap h') (he:∃ q,h'.get? a=some q) (new:YS X.prog X.w (upd H a ob) h' a ob) :
  Inv X pins σ (upd H a ob) { s with heap:=h',toks:=t' } :=
 I.write (x:=a) (e:=a) mu (.inl rfl) (fun b q hb z=>(hs.2 b hb).trans z) he new
theorem Td {P:Program} {w:World} {H':Hp} {h':Heap} {kvs:List (Key×V)} {vs:List (Key×Value)} (z:kvs.length<=sizeLine) (hd:(a==sysModules)=false) (rel:KV kvs vs) (dd:h'.DictOf (Xx P w) a vs) :
  YS P w H' h' a (.dK kvs):=⟨z,hd,vs,rel,dd⟩
theorem Te {H':Hp} {Q:Unit->Shared->Prop} (hu:A.units+1<cLine) (I:Inv X pins σ H s) (g:Q1 H a y v H') (ry:YC y u) (rv:YC v r) (h:∀ s',Inv X pins σ H' s'->Q () s') :
  wpAny (model X.prog X.w) A (setItem (.ref a) u r) Q E s:=by
 rcases g with ⟨kvs,k,e,ey,l,eH⟩ | ⟨kvs,k,b,e,ey,eb,l,eH⟩
 ·subst ey eH
  obtain ⟨z,hd,vs,rel,dd⟩:=BZ I.hok e;have hz:vs.length<=sizeLine:=by rw [<- rel.length];exact z
  have hl:(X2 kvs k v).length<=sizeLine:=by have:=Qe kvs k v;omega
  refine wpAny_setItem_pairs (hsz:=hz) (vI ry) dd fun h' rT hs=>h _ ?_
  have he:∃ q,h'.get? a=some q:=let ⟨q,_,_,hq,_⟩:=rT;⟨q,hq⟩
  exact Fw I (by rw [e];exact True.intro) hs he (Td hl hd (rel.put k rv) rT)
 ·subst ey eH
  cases (show u=Value.ref b from ry)
  obtain ⟨z,hd,xs,rel,dd⟩:=Ca I.hok e;have hz:xs.length<=sizeLine:=by rw [<- Paired.length rel];exact z
  have hl:(X2 kvs k v).length<=sizeLine:=by have:=Qe kvs k v;omega
  refine wpAny_setItem_heap (hsz:=hz) (tupleKind_room_in1 hu) (vK I.hok eb) dd fun h' rT hs=>h _ ?_
  obtain ⟨q,es,ep,hq,h2,h3,h4,_,h5⟩:=rT;refine Fw I (by rw [e];exact True.intro) hs ⟨q,hq⟩ ⟨hl,hd,_,(rel.put k eb rv).keeps fun c ys ec=>?_,q,es,ep,hq,h2,h3,h4,h5⟩;rw [Yq (W6 ec e (fun z=>nomatch z))];exact ec
end
def vM (i:Expr):Prop:=∀ ov iv,subscripted i false ov iv=operate [ov,iv] (getItem ov iv)
theorem Tf {prog:Program} {w:World} {A:Around} {E:Value->Shared->Prop} {s:Shared} {env:Env} {value slice:Expr} {pos:Pos} {T id:String} {Q:Value->Shared->Prop}
  (hl:typeLookup (.type T) "__getitem__"=pure (some (.builtin id))) (hs:vM slice)
  (h:wpAny (model prog w) A (eval value env) (fun o s₁=>wpAny (model prog w) A (eval slice env) (fun i s₂=>s₂.TypeIs o T/\wpAny (model prog w) A (getItem o i) Q E s₂) E s₁) E s) :
  wpAny (model prog w) A (eval (.Subscript value slice pos) env) Q E s:=by
 refine Subscript_ (wpAny_mono h (fun o s₁ h₁=>wpAny_mono h₁ (fun i s₂ h₂=>?_) fun _ _ x=>x) fun _ _ x=>x);obtain ⟨hT,h₂⟩:=h₂;unfold subscriptTail;refine wpAny_bind ?_;rw [getitemInPython_of_ne hT.not_modules];refine wpAny_bind (wpAny_specialOf hT hl ?_);have fin:wpAny (model prog w) A (subscripted slice false o i) (fun r s₃=>wpAny (model prog w) A (letTemporaryGo value o r >>= fun _=>pure r) Q E s₃) E s₂:=by
  rw [hs o i];exact wpAny_operating (wpAny_mono h₂ (fun r s₃ h₃=>wpAny_bind (wpAny_letTemporaryGo (wpAny_pure h₃))) fun _ _ x=>x)
 first
  | exact wpAny_pure (wpAny_bind fin)
  | exact wpAny_bind (wpAny_pure (wpAny_bind fin))
  | exact wpAny_bind fin
theorem Tg {X:Cx} {pins:List (Addr×Obj)} {σ:St} {H:Hp} {s:Shared} {a:Addr} {y:V} {o:Option V} (I:Inv X pins σ H s) (g:Qk H a y o):s.TypeIs (.ref a) "dict":=by
 rcases g with ⟨kvs,k,e,_,_⟩ | ⟨kvs,k,b,e,_,_,_⟩
 ·obtain ⟨_,_,vs,_,dd⟩:=vJ I.hok e
  exact dd.typeIs
 ·obtain ⟨_,_,xs,_,dd⟩:=vL I.hok e
  exact dd.typeIs
def Cd (td ty:TE):TE:=fun σ H Q=>td σ H fun x H1=>ty σ H1 fun y H2=>∃ a v,x = .ref a/\Qk H2 a y (some v)/\Q v H2
def Ce (td ty tv:TE):TS:=fun D σ H=>tv σ H fun v H1=>td σ H1 fun x H2=>ty σ H2 fun y H3=>∃ a H4,x = .ref a/\Q1 H3 a y v H4/\D.nx σ H4
section
variable {X:Cx} {o i e value:Expr} {pos pos' tpos:Pos} {td ty tv:TE}
theorem Fx (hu:X.A.units+1<cLine) (ho:PE X o td) (hi:PE X i ty) (hs:vM i):PE X (.Subscript o i pos) (Cd td ty):=by
 intro pins s σ H Q I h;refine Tf F.slot_dict_getitem.lookup hs (aB (ho pins s σ H _ I h) fun u s1 ⟨x,H1,I1,rx,q1⟩=>aB (hi pins s1 σ H1 _ I1 q1) fun iv s2 ⟨y,H2,I2,ry,a,v,ex,g,q2⟩=>?_);subst ex;obtain rfl:u=Value.ref a:=rx;exact ⟨Tg I2 g,Tc hu I2 g ry fun w' s3 I3 g8=>⟨v,H2,I3,g8,q2⟩⟩
theorem Fy (hu:X.A.units+1<cLine) (ho:PE X o td) (hi:PE X i ty) (hv:PE X value tv) (hs:swapsWith value (some (.Subscript o i pos')) pos.line X.env=pure false) :
  PS X (.Assign [.Subscript o i pos'] value pos) (Ce td ty tv):=by
 intro pins s σ H D I h;refine wpAny_Assign_Subscript (aB (hv pins s σ H _ I h) fun r s1 ⟨v,H1,I1,rv,q1⟩=>aB (ho pins s1 σ H1 _ I1 q1) fun u s2 ⟨x,H2,I2,rx,q2⟩=>aB (hi pins s2 σ H2 _ I2 q2) fun iv s3 ⟨y,H3,I3,ry,a,H4,ex,g,q3⟩=>?_) hs;subst ex;obtain rfl:u=Value.ref a:=rx;exact Te hu I3 g ry rv fun s4 I4=>⟨σ,H4,I4,q3⟩
end
structure M1 (X:Cx) (o:Expr) (m:Str) (apos:Pos) (e:Expr) (cpos:Pos):Prop where
 base:attributeBase o m X.env (eval o X.env)=eval o X.env
 few:((backTo cpos (starEach [e] X.env)).all (fun x => !x.1)&&(backToKw cpos (keywordEach [] X.env)).all (fun x=>x.1.isSome)
  && decide (([e]:List Expr).length+([]:List Keyword).length+(if ([]:List Keyword).isEmpty then 0 else 1)<30))=true
 line:(apos.endLine==cpos.line)=true
 trees:backTo cpos (starEach [e] X.env)=[(false,eval e X.env)]
structure M2 (X:Cx) (o:Expr) (m:Str) (apos:Pos) (e f:Expr) (cpos:Pos):Prop where
 base:attributeBase o m X.env (eval o X.env)=eval o X.env
 few:((backTo cpos (starEach [e,f] X.env)).all (fun x => !x.1)&&(backToKw cpos (keywordEach [] X.env)).all (fun x=>x.1.isSome)
  && decide (([e,f]:List Expr).length+([]:List Keyword).length+(if ([]:List Keyword).isEmpty then 0 else 1)<30))=true
 line:(apos.endLine==cpos.line)=true
 trees:backTo cpos (starEach [e,f] X.env)=[(false,eval e X.env),(false,eval f X.env)]
theorem Vn (env:Env):∀ (names:List (Str×NameKind)) (cs:List (Str×Addr)),(∀ x,(x,NameKind.free)∈names->∃ c,env.cells.lookup x=some c) ->
  ∃ cl,(forIn names cs fun (p:Str×NameKind) (cs:List (Str×Addr))=>(if (p.2==NameKind.free)=true then (do let c <- cellOf env p.1;pure (ForInStep.yield ((p.1,c)::cs))) else pure (ForInStep.yield cs):Sem (ForInStep (List (Str×Addr)))))=pure cl /\
   (∀ x c,cl.lookup x=some c->env.cells.lookup x=some c\/cs.lookup x=some c)/\(∀ x,(x,NameKind.free)∈names->∃ c,cl.lookup x=some c)/\(∀ x c,cs.lookup x=some c->∃ d,cl.lookup x=some d)
 | [],cs,_=>⟨cs,by simp,fun _ _ h => .inr h,(fun _ h=>nomatch h),fun x c h=>⟨c,h⟩⟩
 | (n,k)::r,cs,h=>by
  by_cases hk:k=NameKind.free
  ·subst hk
   obtain ⟨c,hc⟩:=h n (List.mem_cons_self ..);obtain ⟨cl,e,a,b,d⟩:=Vn env r ((n,c)::cs) (fun x hx=>h x (List.mem_cons_of_mem _ hx));have hcell:cellOf env n=pure c:=by unfold cellOf;rw [hc]
   refine ⟨cl,?_,fun x c' hx=>?_,fun x hx=>?_,fun x c' hx=>?_⟩
   ·rw [List.forIn_cons]
    simp only [beq_self_eq_true,if_true,hcell,pure_bind];exact e
   ·rcases a x c' hx with q | q
    ·exact .inl q
    ·rw [List.lookup_cons] at q
     by_cases hxn:(x==n)=true
     ·rw [hxn] at q
      have hx':x=n:=by simpa using hxn
      subst hx';have:c=c':=by simpa using q
      subst this;exact .inl hc
     ·rw [Bool.eq_false_iff.mpr hxn] at q
      exact .inr q
   ·rcases List.mem_cons.mp hx with q | q
    ·have hx':x=n:=congrArg Prod.fst q
     subst hx';exact d x c (by rw [List.lookup_cons];simp)
    ·exact b x q
   ·have:∃ d',((n,c)::cs).lookup x=some d':=by
     rw [List.lookup_cons];by_cases hxn:(x==n)=true
     ·rw [hxn];exact ⟨c,rfl⟩
     ·rw [Bool.eq_false_iff.mpr hxn];exact ⟨c',hx⟩
    obtain ⟨d',hd'⟩:=this;exact d x d' hd'
  ·obtain ⟨cl,e,a,b,d⟩:=Vn env r cs (fun x hx=>h x (List.mem_cons_of_mem _ hx))
   have hkf:(k==NameKind.free)=false:=by simpa using hk
   refine ⟨cl,?_,a,fun x hx=>?_,d⟩
   ·rw [List.forIn_cons]
    simp only [hkf,Bool.false_eq_true,if_false,pure_bind];exact e
   ·rcases List.mem_cons.mp hx with q | q
    ·exact absurd (congrArg Prod.snd q).symm hk
    ·exact b x q
theorem W9 (env:Env) (scope:Scope) (h:∀ x,(x,NameKind.free)∈scope.names->∃ c,env.cells.lookup x=some c) :
  ∃ cl,closureFor scope env=pure cl/\(∀ x c,cl.lookup x=some c->env.cells.lookup x=some c)/\(∀ x,(x,NameKind.free)∈scope.names->∃ c,cl.lookup x=some c):=by
 obtain ⟨cl,e,a,b,_⟩:=Vn env scope.names [] h;refine ⟨cl,?_,fun x c hx=>(a x c hx).elim id (fun z=>by simp at z),b⟩;unfold closureFor;simp only [bind_pure];exact e
def cP (X:Cx) (scope:Scope) (N':List Str) (cl:List (Str×Addr)) (C:Addr) (s₀:Shared) (H₀:Hp) (fp:List Addr) (pn:List (Addr×Obj)):Cx :=
 { X with N:=N',s₀:=s₀,H₀:=H₀,env:=compEnvC scope cl C X.env,outer:=X.stack,ex:=fp,fn:=fun _=>false,pn:=pn,xe:=fun _ _=>False }
inductive iu (X:Cx) (scope:Scope):List (Option Nat)->List Str->Prop
 | nil:iu X scope [] []
 | own {x src N'}:iu X scope src N'->iu X scope (none::src) (x::N')
 | cap {x i src N'}:X.N[i]?=some x->scope.names.lookup x=some NameKind.free->(X.env.scope.names.lookup x=some NameKind.cell\/X.env.scope.names.lookup x=some NameKind.free)->iu X scope src N'->iu X scope (some i::src) (x::N')
def YV (src:List (Option Nat)) (σ:St):St:=src.map fun o=>match o with | none=>none | some i=>σ.getD i none
theorem iu.length {X:Cx} {scope:Scope}:∀ {src:List (Option Nat)} {N':List Str},iu X scope src N'->src.length=N'.length
 | _,_,.nil=>rfl
 | _,_,.own h=>congrArg (·+1) h.length
 | _,_,.cap _ _ _ h=>congrArg (·+1) h.length
theorem iu.get {X:Cx} {scope:Scope} {σ:St}:∀ {src:List (Option Nat)} {N':List Str},iu X scope src N'->∀ (j:Nat) (x:Str) (v:V),N'[j]?=some x->(YV src σ)[j]?=some (some v) ->
  ∃ i:Nat,X.N[i]?=some x/\σ[i]?=some (some v)/\scope.names.lookup x=some NameKind.free/\(X.env.scope.names.lookup x=some NameKind.cell\/X.env.scope.names.lookup x=some NameKind.free)
 | _,_,.nil,j,x,v,h,_=>by simp at h
 | _,_,.own h,0,x,v,_,e=>by simp [YV] at e
 | _,_,.own h,j+1,x,v,e1,e2=>h.get j x v (by simpa using e1) (by simpa [YV] using e2)
 | _,_,.cap (x:=y) (i:=i) hN hf hk h,0,x,v,e1,e2=>by
  have ex:y=x:=by simpa using e1
  subst ex;refine ⟨i,hN,?_,hf,hk⟩;simp only [YV,List.map_cons,List.getElem?_cons_zero,Option.some.injEq] at e2;rw [List.getD_eq_getElem?_getD] at e2
  cases q:σ[i]? with
  | none=>rw [q] at e2;simp at e2
  | some o=>rw [q] at e2;simp at e2;rw [e2]
 | _,_,.cap hN hf hk h,j+1,x,v,e1,e2=>h.get j x v (by simpa using e1) (by simpa [YV] using e2)
theorem VR (env:Env) (x:Str):∀ {names:List (Str×NameKind)},
  (names.map fun (n,k)=>if (k==NameKind.free&&env.scope.kind == .function&&env.kindOf n==some .cell) then (n,NameKind.cell) else (n,k)).lookup x =
   (names.lookup x).map fun k=>if (k==NameKind.free&&env.scope.kind == .function&&env.kindOf x==some .cell) then NameKind.cell else k
 | []=>rfl
 | (n,k)::r=>by
  have ih:=@VR env x r;rw [List.map_cons];dsimp only;by_cases hx:(x==n)=true
  ·have e:x=n:=by simpa using hx
   subst e;by_cases hc:(k==NameKind.free&&env.scope.kind == .function&&env.kindOf x==some .cell)=true
   ·rw [if_pos hc,List.lookup_cons,List.lookup_cons,hx]
    simp only [Option.map_some];rw [if_pos hc]
   ·rw [if_neg hc,List.lookup_cons,List.lookup_cons,hx]
    simp only [Option.map_some];rw [if_neg hc]
  ·have hx':=Bool.eq_false_iff.mpr hx
   by_cases hc:(k==NameKind.free&&env.scope.kind == .function&&env.kindOf n==some .cell)=true
   ·rw [if_pos hc];simp only [List.lookup_cons,hx'];exact ih
   ·rw [if_neg hc];simp only [List.lookup_cons,hx'];exact ih
theorem Vz {names:List (Str×NameKind)} {x:Str} (h:names.lookup x=some NameKind.free):(x,NameKind.free)∈names:=PySem.mem_of_lookup h
section
variable {X:Cx}
theorem Ti {scope:Scope} {N':List Str} {src:List (Option Nat)} {cl:List (Str×Addr)} {pins:List (Addr×Obj)} {σ:St} {H:Hp} {s s':Shared} {h':Heap} {tk:Nat} {fp:List Addr} {m:Str->Option Value}
  (hk:scope.kind = .function) (hcell:∀ y∈scope.names,y.2 ≠ .cell) (hcap:iu X scope src N')
  (a:∀ x c,cl.lookup x=some c->X.env.cells.lookup x=some c) (b:∀ x,(x,NameKind.free)∈scope.names->∃ c,cl.lookup x=some c)
  (I:Inv X pins σ H s) (hf:∀ b∈fp,W3 X pins H b) (hfl:∀ b∈fp,b<s.heap.objs.size) (es':s'={ s with heap:=h',toks:=tk })
  (keep:∀ b o,s.heap.get? b=some o->h'.get? b=some o) (hn:h'.Ns s.heap.objs.size m) :
  Inv (cP X scope N' cl s.heap.objs.size s H fp (X.pn++pins)) [] (YV src σ) H s':=by
 subst es';have kindOf:∀ x,(compEnvC scope cl s.heap.objs.size X.env).kindOf x=(scope.names.lookup x).map fun k=>if (k==NameKind.free&&X.env.scope.kind == .function&&X.env.kindOf x==some .cell) then NameKind.cell else k:=fun x=>VR X.env x
 have freeOf:∀ x,((compEnvC scope cl s.heap.objs.size X.env).kindOf x=some .cell\/(compEnvC scope cl s.heap.objs.size X.env).kindOf x=some .free)->scope.names.lookup x=some .free:=fun x h=>by
  rw [kindOf] at h
  cases q:scope.names.lookup x with
  | none=>rw [q] at h;simp at h
  | some k =>
   rw [q] at h
   by_cases hkf:k=NameKind.free
   ·rw [hkf]
   ·have Oo:(k==NameKind.free)=false:=by simpa using hkf
    simp only [Option.map_some,Oo,Bool.false_and,Bool.false_eq_true,if_false] at h;rcases h with h | h
    ·exact absurd (Option.some.inj h) (hcell _ (PySem.mem_of_lookup q))
    ·exact absurd (Option.some.inj h) hkf
 refine ⟨⟨I.ok.mod,hk,I.ok.glob,I.ok.blt,Nat.le_refl _,fun x y c h1 h2=>I.ok.inj x y c (a x c h1) (a y c h2),fun x hx=>b x (Vz (freeOf x hx)),(fun x c z _=>nomatch z),I.ok.hd,I.ok.frames,.inl rfl,fun b' hb=>?_,I.bs,Nat.le_trans I.ok.jf I.sz,fun b' o e hb=>?_,fun b' hb z=>?_,I.stack,I.gY⟩,
  rfl,I.bare,Un.kept keep,⟨m,hn,fun j x v h1 h2 h3=>?_⟩,fun x c h=>?_,I.hok.fresh (Nat.le_refl _),fun x c h=>I.fP x c (a x c h),fun p hp=>?_,I.hok.kept keep,?_⟩
 ·obtain ⟨f0,f1,f2,f3,f4,f5⟩:=hf b' hb
  exact ⟨Nat.ne_of_lt (hfl b' hb),fun x c h=>f4 x c (a x c h)⟩
 ·obtain ⟨f0,f1,f2,f3,f4,f5⟩:=hf b' hb
  rcases f3 with z | z
  ·exact I.ok.jz b' o e z
  ·exact absurd (Nat.lt_of_lt_of_le (Heap.lt_size e) (Nat.le_trans I.ok.jf z)) (Nat.lt_irrefl _)
 ·obtain ⟨f0,f1,f2,f3,f4,f5⟩:=hf b' hb
  rcases List.mem_cons.mp (I.jh b' z) with e | e
  ·exact f1 e
  ·exact f2 e
 ·obtain ⟨i,e1,e2,e3,e4⟩:=hcap.get j x v h1 h2
  obtain ⟨m0,hn0,hl⟩:=I.loc;obtain ⟨u,r,l⟩:=hl i x v e1 e2 (by rcases e4 with e4 | e4;exact .inr (.inl e4);exact .inr (.inr e4));refine ⟨u,r,?_⟩;rcases l with ⟨l,_⟩ | ⟨k,c,e,z⟩
  ·have l':X.env.scope.names.lookup x=some NameKind.local:=l
   rcases e4 with e4 | e4<;>(rw [e4] at l';cases l')
  ·refine .inr ⟨?_,?_⟩
   ·show (compEnvC scope cl s.heap.objs.size X.env).kindOf x=some .cell\/(compEnvC scope cl s.heap.objs.size X.env).kindOf x=some .free
    rw [kindOf,e3];simp only [Option.map_some]
    split
    ·exact .inl rfl
    ·exact .inr rfl
   ·obtain ⟨c',hc'⟩:=b x (Vz e3)
    have:=a x c' hc';rw [e] at this
    cases this
    obtain ⟨o,ho,hd⟩:=z;exact ⟨c,hc',o,keep _ _ ho,hd⟩
 ·obtain ⟨v,o,ho,hd⟩:=I.cell x c (a x c h)
  exact ⟨v,o,keep _ _ ho,hd⟩
 ·have hp':p∈X.pn++pins:=by simpa [cP] using hp
  obtain ⟨e,n,ne,nf,d⟩:=I.pin p hp';refine ⟨keep _ _ e,n,Nat.ne_of_lt (Heap.lt_size e),fun z=>?_,d⟩;rcases List.mem_cons.mp (I.jh p.1 z) with q | q
  ·exact ne q
  ·exact nf q
 ·show (YV src σ).length=N'.length
  rw [<- hcap.length];simp [YV]
end
section
variable {prog:Program} {w:World} {A:Around} {R:Result->Shared->Prop} {s:Shared}
theorem Tj {elt tg iter:Expr} {ifs:List Expr} {scope:Scope} {pos:Pos} {it acc:Value} {env:Env} (J:Nat->Shared->Prop)
  (turn:∀ n s,J n s->wpAny (model prog w) A (pyNext it) (fun r s₁=>match r with
    | none=>R (.ok .next) s₁
    | some v=>wpAny (model prog w) A (letOwnedTupleGo tg it v) (fun _ z₁=>wpAny (model prog w) A (assign tg env v) (fun _ s₂ =>
      wpAny (model prog w) A (forIn ifs true fun c r=>if r=true then do let ok <- isTrue c env (eval c env);pure (ForInStep.yield ok) else pure (ForInStep.yield r))
       (fun ok s₃=>if ok=true then wpAny (model prog w) A (eval elt env) (fun x s₄=>wpAny (model prog w) A (call (.builtin "list.append") [acc,x]) (fun _ s₅=>∃ m,m<n/\J m s₅) (fun _ _=>False) s₄) (notedBy (model prog w) A env fun e s'=>R (.error e) s') s₃
        else ∃ m,m<n/\J m s₃) (fun _ _=>False) s₂) (fun _ _=>False) z₁) (fun _ _=>False) s₁) (fun _ _=>False) s)
  (n:Nat) (h:J n s):codeAny (model prog w) A (.compLoop (.ListComp elt [⟨tg,iter,ifs,0⟩] scope pos) 0 it acc env) R s:=by
 refine codeAny_loop rfl J (fun n s hJ=>?_) n h
 show wpAny _ A (Sem.onRaise (compTurn (.ListComp elt [⟨tg,iter,ifs,0⟩] scope pos) 0 it acc env) (fun x=>do noteFrame x env;theTreesLotGoes x)) _ _ s
 refine wpAny_noted ?_;rw [compTurn_list];have no:∀ {E:Value->Shared->Prop},∀ (e:Value) (s':Shared),False->E e s':=fun _ _ f=>f.elim
 refine wpAny_bind (wpAny_standAt (wpAny_bind (wpAny_mono (turn n s hJ) (fun r s₁ h₁=>?_) no)))
 cases r with
 | none=>exact wpAny_pure h₁
 | some v =>
  refine wpAny_bind (wpAny_mono h₁ (fun _ z₁ hz=>?_) no);refine wpAny_bind (wpAny_mono hz (fun _ s₂ h₂=>wpAny_bind (wpAny_mono h₂ (fun ok s₃ h₃=>?_) no)) no)
  cases ok with
  | false=>exact wpAny_pure ⟨rfl,h₃⟩
  | true =>
   exact wpAny_bind (wpAny_bind (wpAny_mono h₃ (fun x s₄ h₄=>wpAny_bind (wpAny_mono h₄ (fun _ s₅ h₅=>wpAny_pure (wpAny_pure ⟨rfl,h₅⟩)) no)) fun _ _ z=>z))
end
def lF (X:Cx) (ifs:List Expr) (t:TT):Prop :=
 ∀ (pins:List (Addr×Obj)) (s:Shared) (σ:St) (H:Hp) (Q:Bool->Hp->Prop),Inv X pins σ H s->t σ H Q ->
  wpAny (model X.prog X.w) X.A (forIn ifs true fun c r=>if r=true then do let ok <- isTrue c X.env (eval c X.env);pure (ForInStep.yield ok) else pure (ForInStep.yield r)) (TP X pins σ Q) X.xe s
def WJ:TT:=fun _ H Q=>Q true H
theorem Y4 {X:Cx}:lF X [] WJ:=fun _ _ _ H _ I h=>wpAny_tests_nil ⟨H,I,h⟩
theorem Tn {X:Cx} {c:Expr} {t:TT} (h:PT X c t):lF X [c] t:=fun pins s σ H Q I q=>wpAny_tests_one (h pins s σ H Q I q)
def LC (src:List (Option Nat)) (J:It) (g:TG) (tt:TT) (te:TE) (σ:St) (H1:Hp) (Q:VK) (D:Addr):Prop:=∃ W:Nat->Nat->List V->St->Hp->Prop,(∃ m,W 0 m [] (YV src σ) (upd H1 D (.lst []))) /\
 ∀ i m ys σ' H2,W i m ys σ' H2->H2 D=some (.lst ys)/\((J.stop i H2/\Q (.ref D) H2)\/(J.go i H2/\∃ N:List V->St->Hp->Prop,(∀ ys' σ3 H3,N ys' σ3 H3->∃ m',m'<m/\W (i+1) m' ys' σ3 H3)/\∀ x H3,J.jt i H2 x H3->g x σ' H3 fun σ2 H4=>tt σ2 H4 fun b H5 =>
  if b=true then te σ2 H5 fun y H6=>H6 D=some (.lst ys)/\ys.length<sizeLine/\N (ys++[y]) σ2 (upd H6 D (.lst (ys++[y])))
  else N ys σ2 H5))
def iT (src:List (Option Nat)) (wi:TI) (g:TG) (tt:TT) (te:TE):TE:=fun σ H Q=>wi σ H fun J H1=>∀ D,H1 D=none->LC src J g tt te σ H1 Q D
section
variable {X:Cx}
theorem V5 {elt tg iter:Expr} {ifs:List Expr} {scope:Scope} {pos:Pos} {src:List (Option Nat)} {N':List Str} {g:TG} {tt:TT} {te:TE} {cl:List (Str×Addr)} {pins:List (Addr×Obj)} {σ:St} {Q:VK} {itv:Value} {s2:Shared} {Po:Value->Addr->Result->Shared->Prop} {Z:Addr->Shared->Hp->List Addr->List (Addr×Obj)->Value->Shared->Prop}
  (hcap:iu X scope src N') (hc:X.calm=true) (hg:∀ C s₀ H₀ fp pn,PG (cP X scope N' cl C s₀ H₀ fp pn) tg g) (ht:∀ C s₀ H₀ fp pn,lF (cP X scope N' cl C s₀ H₀ fp pn) ifs tt)
  (he:∀ C s₀ H₀ fp pn,PE ((cP X scope N' cl C s₀ H₀ fp pn).wish (Z C s₀ H₀ fp pn)) elt te) (hk:scope.kind = .function) (hcell:∀ y∈scope.names,y.2 ≠ .cell) (a:∀ x c,cl.lookup x=some c->X.env.cells.lookup x=some c) (b:∀ x,(x,NameKind.free)∈scope.names->∃ c,cl.lookup x=some c)
  (h2:PIE X pins σ tg (fun J H1=>∀ D,H1 D=none->LC src J g tt te σ H1 Q D) itv s2)
  (done:∀ (D C:Addr) (s6:Shared) (H5:Hp),(∀ h',Heap.SameBut C s6.heap h'->Inv X pins σ H5 { s6 with heap:=h' })->(∃ m,s6.heap.Ns C m)->H5 C=none->(∀ {H':Hp},H' C=none->W3 X pins H' C)->Q (.ref D) H5->Po (.ref D) C (.ok .next) s6)
  (gone:∀ (D:Addr) (s3:Shared) (H3:Hp) (fp:List Addr),Inv X pins σ H3 s3->(∀ {H':Hp} {s':Shared} {σ':St} {fX:List (Addr×Obj)},Inv (cP X scope N' cl s3.heap.objs.size s3 H3 fp (X.pn++pins)) fX σ' H' s'->∀ h',Heap.SameBut s3.heap.objs.size s'.heap h'->Inv X pins σ H' { s' with heap:=h' }) ->
   ∀ e s',Z s3.heap.objs.size s3 H3 fp (X.pn++pins) e s'->notedBy (model X.prog X.w) X.A (compEnvC scope cl s3.heap.objs.size X.env) (fun e s'=>Po (.ref D) s3.heap.objs.size (.error e) s') e s') :
  wpAny (model X.prog X.w) X.A (newList []) (fun acc s₃=>wpAny (model X.prog X.w) X.A (newFunctionEnv scope X.env.globals cl [] X.env.qual none Value.none (some X.env)) (fun cenv s₄ =>
   codeAny (model X.prog X.w) X.A (.compStart (.ListComp elt [⟨tg,iter,ifs,0⟩] scope pos) 0 itv acc { cenv with scope:=relabel scope X.env }) (Po acc cenv.locals) s₄) X.xe s₃) X.xe s2:=by
 obtain ⟨it,fp,tn,J,H2,e,I2,T,st2,f2,q⟩:=h2;subst e;have hD:H2 s2.heap.objs.size=none:=I2.hok.fresh (Nat.le_refl _);obtain ⟨W,⟨m0,w0⟩,turn⟩:=q s2.heap.objs.size hD;have I3:=I2.lE (t':=s2.toks) (ys:=[]) (its:=[]) .nil (Nat.zero_le _);have Tp:∀ b∈fp,b<s2.heap.objs.size:=fun b hb=>by
  obtain ⟨o,e,_⟩:=T.obj _ _ st2 b hb;exact Heap.lt_size e
 refine wpAny_newObj_type ?_;generalize Fz:({ s2 with heap:=s2.heap.push { cls := .type "list",dict:=none,data := .seq ([]:List Value).toArray } }:Shared)=s3;have jJ:Inv X pins σ (upd H2 s2.heap.objs.size (.lst [])) s3:=Fz▸I3
 have Cg:∀ b o,s2.heap.get? b=some o->s3.heap.get? b=some o:=fun b o e=>by rw [<- Fz];exact Heap.get?_push_of_some _ e
 have st3:tn 0 s3.heap:=T.keep _ _ _ st2 fun b _ o e=>Cg b o e
 have FJ:∀ b∈fp,b<s3.heap.objs.size:=fun b hb=>by
  obtain ⟨o,e,_⟩:=T.obj _ _ st3 b hb;exact Heap.lt_size e
 have f3:∀ b∈fp,W3 X pins (upd H2 s2.heap.objs.size (.lst [])) b:=fun b hb=>⟨by rw [Yq (Nat.ne_of_lt (Tp b hb))];exact (f2 b hb).1,(f2 b hb).2⟩
 generalize eD:s2.heap.objs.size=D at *;generalize eH3:upd H2 D (.lst [])=H3 at *;refine wpAny_newFunctionEnv hcell (by intro y hy;simp at hy) (fun h₁ hns₁ hsb₁=>?_) hk;have ou:∀ b o,s3.heap.get? b=some o->h₁.get? b=some o:=fun b o e=>hsb₁.extBut b o (Nat.ne_of_lt (Heap.lt_size e)) (Heap.get?_push_of_some _ e)
 have I4:=Ti (N':=N') (src:=src) (tk:=s3.toks+([]:List (Str×Value)).length) hk hcell hcap a b jJ f3 FJ rfl ou hns₁;have stat:∀ {H':Hp},(∀ b∈fp,H' b=none)->∀ b∈fp,W3 (cP X scope N' cl s3.heap.objs.size s3 H3 fp (X.pn++pins)) [] H' b:=fun hn b' hb=>by
  obtain ⟨f0,f1,fs,fe,f4,f5⟩:=f3 b' hb;refine ⟨hn b' hb,Nat.ne_of_lt (FJ b' hb),fun z=>?_,.inl hb,fun x c h=>f4 x c (a x c h),fun p hp=>f5 p (by simpa [cP] using hp)⟩;rcases List.mem_cons.mp (jJ.jh b' z) with e | e
  ·exact f1 e
  ·exact fs e
 have fin:∀ {H':Hp} {s':Shared} {σ':St} {fX:List (Addr×Obj)},Inv (cP X scope N' cl s3.heap.objs.size s3 H3 fp (X.pn++pins)) fX σ' H' s'->∀ h',Heap.SameBut s3.heap.objs.size s'.heap h'->Inv X pins σ H' { s' with heap:=h' }:=fun {H' s' σ' fX} J' h' sb=>by
  have same:∀ b o,b≠s3.heap.objs.size->s'.heap.get? b=some o->h'.get? b=some o:=fun b o hb e=>sb.extBut b o hb e
  have u:Un (frs X.stack) fp H3 H' s3.heap s'.heap:=J'.base;refine jJ.call' (s':={ s' with heap:=h' }) (ch:=fp) J'.os ⟨fun b o e n hb hx=>?_,fun b o e n hb hx=>?_,u.free,fun b o e hx=>?_,u.tups,u.dB,u.dY⟩ (fun b o e=>?_) J'.bare fun b hb=>?_
  ·exact same b o (Nat.ne_of_lt (Heap.lt_size e)) (u.keep b o e n hb hx)
  ·obtain ⟨sl,z⟩:=u.slot b o e n hb hx
   exact ⟨sl,same b _ (Nat.ne_of_lt (Heap.lt_size e)) z⟩
  ·obtain ⟨o',z⟩:=u.there b o e hx
   exact ⟨o',same b o' (Nat.ne_of_lt (Heap.lt_size e)) z⟩
  ·have nC:∀ c v,H' c=some v->c≠s3.heap.objs.size:=fun c v z q=>by
    have:=J'.free;rw [show (cP X scope N' cl s3.heap.objs.size s3 H3 fp (X.pn++pins)).env.locals=s3.heap.objs.size from rfl,<- q,z] at this
    cases this
   refine (J'.hok b o e).stay (fun c v hc q=>same c v ?_ q) (fun _ q=>q) fun _ _ q=>q
   rcases hc with z | z
   ·rw [z];exact nC b o e
   ·exact nC c _ z
  ·obtain ⟨f0,f1,fs,fe,f4,f5⟩:=f3 b hb
   exact ⟨fe,f1,f4,f5⟩
 have loop:codeAny (model X.prog X.w) X.A (.compLoop (.ListComp elt [⟨tg,iter,ifs,0⟩] scope pos) 0 (.ref it) (.ref D) (compEnvC scope cl s3.heap.objs.size X.env))
   (Po (.ref D) s3.heap.objs.size) { s3 with heap:=h₁,toks:=s3.toks+([]:List (Str×Value)).length }:=by
  refine Tj (fun n s'=>∃ i ys σ' H',Inv (cP X scope N' cl s3.heap.objs.size s3 H3 fp (X.pn++pins)) [] σ' H' s'/\tn i s'.heap/\(∀ b∈fp,H' b=none)/\W i n ys σ' H') ?_ m0 ⟨0,[],YV src σ,H3,I4,T.keep _ _ _ st3 fun b _ o e=>ou b o e,fun b hb=>(f3 b hb).1,w0⟩;rintro n s5 ⟨i,ys,rW,H5,I5,m9,rM,w5⟩;obtain ⟨hDs,stop | go⟩:=turn i n ys rW H5 w5
  ·obtain ⟨stop,qn⟩:=stop
   refine aB (T.done (cP X scope N' cl s3.heap.objs.size s3 H3 fp (X.pn++pins)) rfl rfl rfl hc i [] s5 rW H5 _ I5 (stat rM) m9 stop) fun r s6 ⟨hr,I6⟩=>?_
   subst hr;obtain ⟨m,hn,_⟩:=id I6.loc;exact done D _ s6 H5 (fun h' sb=>fin I6 h' sb) ⟨m,hn⟩ I6.free (fun z=>jJ.lD (Nat.le_refl _) z) qn
  ·obtain ⟨go,N,hN,step⟩:=go
   refine aB (T.item (cP X scope N' cl s3.heap.objs.size s3 H3 fp (X.pn++pins)) rfl rfl rfl hc i [] s5 rW H5 _ I5 (stat rM) m9 go) fun r s6 ⟨u,hr,h6⟩=>?_
   subst hr;refine aB h6 fun _ s7 ⟨x,H7,I7,r7,y7,vN,Tq⟩=>?_
   have Tr:=I7.pinned (stat Tq) (T.obj _ _ vN);have again:∀ {s8:Shared} {kh:St} {H8:Hp} {ys':List V},Inv (cP X scope N' cl s3.heap.objs.size s3 H3 fp (X.pn++pins)) ([]++Uq fp s7.heap) kh H8 s8->(∃ m',m'<n/\W (i+1) m' ys' kh H8) ->
     ∃ m,m<n/\∃ i ys σ' H',Inv (cP X scope N' cl s3.heap.objs.size s3 H3 fp (X.pn++pins)) [] σ' H' s8/\tn i s8.heap/\(∀ b∈fp,H' b=none)/\W i m ys σ' H':=fun {s8 kh H8 ys'} I8 ⟨m',hm,w8⟩=>by
    refine ⟨m',hm,i+1,ys',kh,H8,I8.gZ,T.keep _ _ _ vN fun b hb o e=>(I8.pin (b,o) (List.mem_append_right _ (List.mem_append_right _ (Wq hb e)))).1,fun b hb=>?_,w8⟩;obtain ⟨o,e,d⟩:=T.obj _ _ vN b hb;exact (I8.pin (b,o) (List.mem_append_right _ (List.mem_append_right _ (Wq hb e)))).2.1
   refine aB (hg _ s3 H3 fp _ _ s7 rW H7 x u _ Tr r7 (step x H7 y7)) fun _ s8 ⟨kh,H8,I8,q8⟩=>?_
   refine aB (ht _ s3 H3 fp _ _ s8 kh H8 _ I8 q8) fun ok s9 ⟨H9,I9,q9⟩=>?_
   cases ok with
   | false=>exact again I9 (hN _ _ _ q9)
   | true =>
    rw [if_pos rfl];refine wpAny_mono (he _ s3 H3 fp _ _ s9 kh H9 _ (I9.wish _) q9) (fun y Tt ⟨yv,lG,Oq,r10,Tv⟩=>?_) (gone D s3 H3 fp jJ fin);have Tw:=Oq.eY;obtain ⟨Tz,hlen,w10⟩:=Tv;refine aB (Wg (X:=cP X scope N' cl s3.heap.objs.size s3 H3 fp (X.pn++pins)) _ Tt kh lG (.ref D) [yv] (.ref D) [y] (fun _ H'=>H'=upd lG D (.lst (ys++[yv]))) Tw rfl (.cons r10 .nil) ⟨D,ys,yv,rfl,rfl,Tz,hlen,rfl⟩) fun _ FN ⟨_,TF,TJ,_,TQ⟩=>?_
    subst TQ;exact again TJ (hN _ _ _ w10)
 exact codeAny_compStart_list loop (T.self _ 0 _ _ _ (T.keep _ _ _ st3 fun b _ o e=>ou b o e) loop)
theorem XQ {elt tg iter:Expr} {ifs:List Expr} {scope:Scope} {pos:Pos} {src:List (Option Nat)} {N':List Str} {wi:TI} {g:TG} {tt:TT} {te:TE} (hcap:iu X scope src N') (hc:X.calm=true) (hi:PI X tg iter wi)
  (hg:∀ cl C s₀ H₀ fp pn,PG (cP X scope N' cl C s₀ H₀ fp pn) tg g) (ht:∀ cl C s₀ H₀ fp pn,lF (cP X scope N' cl C s₀ H₀ fp pn) ifs tt) (he:∀ cl C s₀ H₀ fp pn,PE (cP X scope N' cl C s₀ H₀ fp pn) elt te)
  (hfree:∀ x,(x,NameKind.free)∈scope.names->X.env.scope.names.lookup x=some NameKind.cell\/X.env.scope.names.lookup x=some NameKind.free)
  (hk:scope.kind = .function:=by rfl) (hcell:∀ y∈scope.names,y.2 ≠ .cell:=by decide) (hnames:∀ y∈scope.names,y.2 = .local->scope.names.lookup y.1=some .local:=by decide +kernel)
  (hs:∀ x,foldedSetIterable iter X.env x=pure x:=by intro _;rfl):PE X (.ListComp elt [⟨tg,iter,ifs,0⟩] scope pos) (iT src wi g tt te):=by
 intro pins s σ H Q I h;obtain ⟨cl,hcl,a,b⟩:=W9 X.env scope fun x hx=>I.ok.has x (hfree x hx)
 rw [eval_ListComp];refine wpAny_comprehension_free (use:=none) rfl hs hcl hk hnames (aB (hi pins s σ H _ I h) fun v s1 h1=>aB h1 fun itv s2 h2=>?_);exact V5 (Po:=fun v C=>compPost (model X.prog X.w) X.A X.xe none (EP X pins σ Q) v C) (Z:=fun _ _ _ _ _ _ _=>False) hcap hc (hg cl) (ht cl) (he cl) hk hcell a b h2 (fun D C s6 H5 fi ⟨m,hn⟩ _ _ qn=>⟨m,hn,fun h' sb=>⟨.ref D,H5,fi h' sb,rfl,qn⟩⟩) fun _ _ _ _ _ _ _ _ z=>z.elim
end
def Vo (x:Str) (lo hi:Option Int):Str:=⟨((x.cps.toList.drop (HT.bO x.length 0 lo)).take (HT.bO x.length x.length hi - HT.bO x.length 0 lo)).toArray⟩
theorem Qz (lo hi:Option Int) (n:Nat):Builtin.Str.strSliceIndices lo hi 1 n=(List.range (HT.bO n n hi - HT.bO n 0 lo)).map fun k=>HT.bO n 0 lo+k:=by
 have clip:∀ (v:Int) (d:Nat),max 0 (min (if v<0 then v+(n:Int) else v) (n:Int))=((HT.bO n d (some v):Nat):Int):=fun v d=>by
  show _=(((if v<0 then (v+(n:Int)).toNat else min v.toNat n):Nat):Int)
  by_cases hv:v<0
  ·simp only [if_pos hv];omega
  ·simp only [if_neg hv];omega
 have key:∀ (i j:Nat),sliceRange (i:Int) (j:Int) 1=(List.range (j - i)).map fun k=>i+k:=fun i j=>by
  unfold sliceRange;have e:(if (1:Int)>0 then (if (i:Int)<(j:Int) then ((j:Int) - (i:Int)+1 - 1) / 1 else 0) else (if (i:Int)>(j:Int) then ((i:Int) - (j:Int) - 1 - 1) / (-1) else 0)).toNat=j - i:=by
   rw [if_pos (by decide)];by_cases h:(i:Int)<(j:Int)
   ·rw [if_pos h,Int.ediv_one];omega
   ·rw [if_neg h];omega
  dsimp only;rw [e];refine List.map_congr_left fun k _=>?_
  omega
 have lo':(match lo with | none=>(0:Int) | some v=>max 0 (min (if v<0 then v+(n:Int) else v) (n:Int)))=((HT.bO n 0 lo:Nat):Int):=by
  cases lo with
  | none=>rfl
  | some v=>exact clip v 0
 have hi':(match hi with | none=>(n:Int) | some v=>max 0 (min (if v<0 then v+(n:Int) else v) (n:Int)))=((HT.bO n n hi:Nat):Int):=by
  cases hi with
  | none=>rfl
  | some v=>exact clip v n
 rw [<- key,<- lo',<- hi'];unfold Builtin.Str.strSliceIndices
 cases lo<;>cases hi<;>simp
theorem FP (x:Str) (lo hi:Option Int):Txt.slice x lo hi=Vo x lo hi:=by
 have af7:=HT.o8 x.length 0 (Nat.zero_le _) lo;have af8:=HT.o8 x.length x.length (Nat.le_refl _) hi;have core:((Builtin.Str.strSliceIndices lo hi 1 x.length).filterMap (x.cps[·]?))=(x.cps.toList.drop (HT.bO x.length 0 lo)).take (HT.bO x.length x.length hi - HT.bO x.length 0 lo):=by
  rw [Qz,List.filterMap_map];generalize HT.bO x.length 0 lo=i;generalize HT.bO x.length x.length hi - i=k;have gen:∀ (l:List Nat) (k:Nat),(List.range k).filterMap (fun m=>l[m]?)=l.take k:=by
   intro l k
   induction k with
   | zero=>simp
   | succ k ih =>
    rw [List.range_succ,List.filterMap_append,ih];by_cases hk:k<l.length
    ·rw [List.take_succ_eq_append_getElem hk];simp [hk]
    ·have h1:l.take (k+1)=l:=List.take_of_length_le (by omega)
     have h2:l.take k=l:=List.take_of_length_le (by omega);rw [h1,h2];simp [hk]
  have e:((fun j=>x.cps[j]?) ∘ fun k=>i+k)=fun m=>(x.cps.toList.drop i)[m]?:=by
   funext m
   simp [List.getElem?_drop]
  rw [e,gen]
 unfold Txt.slice Vo;rw [core]
 split
 ·rename_i h
  simp only [beq_self_eq_true,Bool.true_and,beq_iff_eq] at h;rw [Qz,List.length_map,List.length_range] at h
  have h0:HT.bO x.length 0 lo=0\/x.length=0:=by omega
  have e:(x.cps.toList.drop (HT.bO x.length 0 lo)).take (HT.bO x.length x.length hi - HT.bO x.length 0 lo)=x.cps.toList:=by
   have hl:x.cps.toList.length=x.length:=by simp [Str.length]
   rcases h0 with h0 | h0
   ·rw [h,h0,List.drop_zero,List.take_of_length_le (by omega)]
   ·have:x.cps.toList=[]:=List.eq_nil_of_length_eq_zero (by omega)
    rw [this];simp
  rw [e]
 ·rfl
theorem Q2 (x:Str) (lo hi:Option Int):(Vo x lo hi).length<=x.length:=by
 rw [<- FP];exact Txt.slice_le x lo hi
def Ot:V->Option Int->Option Int->Hp->VK->Prop:=fun x lo hi H Q=>∃ z,x = .str z/\z.length<=sizeLine/\Q (.str (Vo z lo hi)) H
section
variable {X:Cx}
theorem vO:vm X Ot:=by
 intro pins s σ H x v vl vu lo hi sl Q I rx hs pl pu h;obtain ⟨z,rfl,hz,q⟩:=h;obtain ⟨t,rfl⟩:=rx;refine ⟨"str",_,F.slot_str_getitem.lookup,typeIs_str _ _ _,?_⟩;have fin:∀ (l u:Option (Int×Tok)),l.map (·.1)=lo->u.map (·.1)=hi->s.heap.IsSlice sl l u none->wpAny (model X.prog X.w) X.A (getItem (.str z t) (.ref sl)) (EP X pins σ Q) X.xe s:=fun l u el eu hsl=>by
  refine wpAny_getItem_str_slice (l:=l) (u:=u) (st:=none) hsl rfl ?_;have e:(if (((none:Option (Int×Tok)).map (·.1)).getD 1==1&&(slicePicked z l u none).length==z.length)=true then z else ⟨((slicePicked z l u none).filterMap (z.cps[·]?)).toArray⟩)=Vo z lo hi:=by
   rw [<- FP,<- el,<- eu];rfl
  refine post_val_or_str ⟨by rw [e];exact Nat.le_trans (Q2 z lo hi) hz,fun t' k=>?_⟩;rw [e];exact ⟨.str (Vo z lo hi),H,I.tok k,⟨t',rfl⟩,q⟩
 obtain ⟨o,ho,hc,hd⟩:=hs
 cases pl with
 | none =>
  cases pu with
  | none=>exact fin none none rfl rfl ⟨o,ho,hc,hd⟩
  | int j tj=>exact fin none (some (j,tj)) rfl rfl ⟨o,ho,hc,hd⟩
 | int i ti =>
  cases pu with
  | none=>exact fin (some (i,ti)) none rfl rfl ⟨o,ho,hc,hd⟩
  | int j tj=>exact fin (some (i,ti)) (some (j,tj)) rfl rfl ⟨o,ho,hc,hd⟩
theorem Wi:cR X (compareOp .LtE) (fun x y H Q=>∃ i j,x = .str i/\y = .str j/\Q (.bl (!decide (j.cps.toList<i.cps.toList))) H):=by
 intro pins s σ H x y v u Q I rx ry h;obtain ⟨i,j,rfl,rfl,q⟩:=h;obtain ⟨t,rfl⟩:=rx;obtain ⟨t',rfl⟩:=ry;exact PySem.P.le_str ⟨.bl _,H,I,rfl,q⟩
def Its (x:Str):It:=⟨fun i _=>i<x.length,fun i H v H'=>H'=H/\∃ c,x.cps.toList[i]?=some c/\v = .str ⟨#[c]⟩,fun i _=>x.length<=i⟩
theorem TV {P:Program} {w:World} {K:PySem.W.Frag} {tg:Expr} (x:Str) (t:Tok) (it:Addr):Turn P w K tg (Its x) [it] it (fun i h=>h.IsStrIter it "str_ascii_iterator" x t i\/h.IsStrIter it "str_iterator" x t i) where
 mem:=by simp
 obj:=fun i h st b hb=>by
  have e:b=it:=by simpa using hb
  subst e;rcases st with ⟨o,e,c,d⟩ | ⟨o,e,c,d⟩<;>exact ⟨o,e,fun v z=>by rw [d] at z;cases z⟩
 keep:=fun i h h' st k=>by
  rcases st with ⟨o,e,c⟩ | ⟨o,e,c⟩
  ·exact .inl ⟨o,k it (by simp) o e,c⟩
  ·exact .inr ⟨o,k it (by simp) o e,c⟩
 item:=by
  intro X hP hw hK hc i pins s σ H E I hf st hg;subst hP hw hK;have hi:i<x.cps.size:=hg;have hx:x.cps[i]?=some x.cps[i]:=by simp [hi]
  obtain ⟨f0,f1,f2,f3,f4,f5⟩:=hf it (by simp);have fin:∀ (ty:String) (h':Heap),["enumerate","zip","dict_itemiterator","dict_reverseitemiterator","odict_iterator","itertools.zip_longest","itertools.pairwise"].contains ty=false->h'.IsStrIter it ty x t (i+1)->Heap.SameBut it s.heap h' ->
    (h'.IsStrIter it ty x t (i+1)->(h'.IsStrIter it "str_ascii_iterator" x t (i+1)\/h'.IsStrIter it "str_iterator" x t (i+1))) ->
    ∃ u,some (Value.str ⟨#[x.cps[i]]⟩ s.toks)=some u/\wpAny (model X.prog X.w) X.A (letOwnedTupleGo tg (.ref it) u) (fun _ s2=>∃ y H',Inv X pins σ H' s2/\YC y u/\(Its x).jt i H y H' /\
     (s2.heap.IsStrIter it "str_ascii_iterator" x t (i+1)\/s2.heap.IsStrIter it "str_iterator" x t (i+1))/\∀ b∈[it],H' b=none) E { s with heap:=h',toks:=s.toks+1 }:=fun ty h' hn st' sb hor=>by
   have I1:Inv X pins σ H { s with heap:=h',toks:=s.toks+1 }:=I.turned (t':=s.toks+1) (fun b o hb e=>(sb.2 b hb).trans e) f0 f1 f3 f4 f5;obtain ⟨o,e,c,d⟩:=id st';exact ⟨_,rfl,rJ (s:={ s with heap:=h',toks:=s.toks+1 }) e c d hn ⟨.str ⟨#[x.cps[i]]⟩,H,I1,⟨_,rfl⟩,⟨rfl,x.cps[i],by simp [hi],rfl⟩,hor st',fun b hb=>(hf b hb).1⟩⟩
  rcases st with st | st
  ·exact wpAny_pyNext_ascii_item st hx fun h' st' sb=>fin _ h' (by decide) st' sb .inl
  ·exact wpAny_pyNext_wide_item st hx fun h' st' sb=>fin _ h' (by decide) st' sb .inr
 done:=by
  intro X hP hw hK hc i pins s σ H E I hf st hg;subst hP hw hK;have hi:x.cps.size<=i:=hg;have hx:x.cps[i]?=none:=by simp [hi]
  obtain ⟨f0,f1,f2,f3,f4,f5⟩:=hf it (by simp);rcases st with st | st
  ·exact wpAny_pyNext_ascii_end (I.ok.hd hc) st hx fun h' eb=>⟨rfl,I.turned (t':=s.toks) (fun b o hb e=>eb b o hb e) f0 f1 f3 f4 f5⟩
  ·exact wpAny_pyNext_wide_end (I.ok.hd hc) st hx fun h' eb=>⟨rfl,I.turned (t':=s.toks) (fun b o hb e=>eb b o hb e) f0 f1 f3 f4 f5⟩
 self:=fun A i s Q E st h=>by
  rcases st with st | st
  ·exact wpAny_pyIter_slot st.typeIs F.slot_str_ascii_iterator_iter (wpAny_call_entry F.slot_str_ascii_iterator_iter st.typeIs F.entry_str_ascii_iterator_iter (wpAny_pure ⟨_,rfl,"str_ascii_iterator",_,st.typeIs,F.slot_str_ascii_iterator_next.lookup,h⟩) (F.args_str_ascii_iterator_iter_1 _))
  ·exact wpAny_pyIter_slot st.typeIs F.slot_str_iterator_iter (wpAny_call_entry F.slot_str_iterator_iter st.typeIs F.entry_str_iterator_iter (wpAny_pure ⟨_,rfl,"str_iterator",_,st.typeIs,F.slot_str_iterator_next.lookup,h⟩) (F.args_str_iterator_iter_1 _))
end
section
variable {X:Cx} {tg:Expr}
def vP (tl:TE):TI:=fun σ H R=>tl σ H fun x H1=>∃ z,x = .str z/\R (Its z) H1
theorem QA {l:Expr} {tl:TE} (hl:PE X l tl):PI X tg l (vP tl):=by
 intro pins s σ H R I h;refine aB (hl pins s σ H _ I h) fun v s1 ⟨x,H1,I1,r1,q1⟩=>?_
 obtain ⟨z,e,q⟩:=q1;subst e;obtain ⟨t,rfl⟩:=r1;refine wpAny_pyIter_strU ?_;refine ⟨s1.heap.objs.size,[s1.heap.objs.size],_,_,H1,rfl,I1.kept (t':=s1.toks) fun b o e=>Heap.get?_push_of_some _ e,TV z t _,?_,fun b hb=>?_,q⟩
 ·unfold strIterType
  split
  ·exact .inl ⟨_,Heap.get?_push_size _ rfl,rfl,rfl⟩
  ·exact .inr ⟨_,Heap.get?_push_size _ rfl,rfl,rfl⟩
 ·have e:b=s1.heap.objs.size:=by simpa using hb
  subst e;exact I1.lD (Nat.le_refl _) (I1.hok.fresh (Nat.le_refl _))
def Ws (J:It) (P:Hp->Prop) (xs:List V):Prop:=∀ H,P H->∀ i,(∀ x,xs[i]?=some x->J.go i H/\∀ y H',J.jt i H y H'->H'=H/\y=x)/\(xs.length<=i->J.stop i H)
theorem FQ (z:Str) (P:Hp->Prop):Ws (Its z) P (z.cps.toList.map fun c => .str ⟨#[c]⟩):=fun H _ i=>by
 refine ⟨fun x hx=>?_,fun hi=>?_⟩
 ·rw [List.getElem?_map] at hx
  cases e:z.cps.toList[i]? with
  | none=>rw [e] at hx;simp at hx
  | some c =>
   rw [e] at hx
   have hx':V.str ⟨#[c]⟩=x:=by simpa using hx
   subst hx';have hi:i<z.cps.toList.length:=(List.getElem?_eq_some_iff.mp e).1;refine ⟨by show i<z.cps.size;simpa using hi,fun y H' ⟨e1,c',e2,e3⟩=>⟨e1,?_⟩⟩;rw [e] at e2
   cases e2
   exact e3
 ·show z.cps.size<=i
  simpa using hi
theorem FT {K:W.Frag} {a:Addr} {xs:List V}:Ws (uQ K a) (fun H=>aD K H a xs) xs:=fun H hq i=>by
 refine ⟨fun x hx=>⟨⟨xs,x,hq,hx⟩,fun y H' ⟨e1,e2⟩=>⟨e1,?_⟩⟩,fun hi=>⟨xs,hq,hi⟩⟩;have:=e2 xs hq;rw [hx] at this
 exact (Option.some.inj this).symm
theorem Va {K:W.Frag} {a:Addr} {xs:List V}:Ws (m8 K a) (fun H=>au K H a xs) xs:=fun H hq i=>by
 refine ⟨fun x hx=>⟨⟨xs,x,hq,hx⟩,fun y H' ⟨e1,e2⟩=>⟨e1,?_⟩⟩,fun hi=>⟨xs,hq,hi⟩⟩;have:=e2 xs hq;rw [hx] at this
 exact (Option.some.inj this).symm
theorem Qf {lo:Int} {n:Nat} {P:Hp->Prop}:Ws (j8 lo n) P ((List.range n).map fun (i:Nat)=>V.int (lo+i)):=fun H hq i=>by
 refine ⟨fun x hx=>?_,fun hi=>by show n<=i;simpa using hi⟩;have hi:i<n:=by
  have:=(List.getElem?_eq_some_iff.mp hx).1;simpa using this
 refine ⟨hi,fun y H' ⟨e1,e2⟩=>⟨e1,?_⟩⟩;rw [List.getElem?_map,List.getElem?_range hi] at hx
 rw [e2];simpa using hx
theorem Ws.imp {J:It} {P P':Hp->Prop} {xs:List V} (h:Ws J P xs) (hp:∀ H,P' H->P H):Ws J P' xs:=fun H q=>h H (hp H q)
theorem FW {J:It} {P:Hp->Prop} {xs:List V} (hJ:Ws J P xs) {src:List (Option Nat)} {g:TG} {tt:TT} {te:TE} {σ:St} {H1:Hp} {Q:VK} {D:Addr} (Pv:Nat->List V->St->Hp->Prop)
  (h0:Pv 0 [] (YV src σ) (upd H1 D (.lst []))) (hP:∀ i ys σ' H',Pv i ys σ' H'->P H'/\H' D=some (.lst ys))
  (step:∀ i ys σ' H' x,xs[i]?=some x->Pv i ys σ' H'->g x σ' H' fun σ2 H4=>tt σ2 H4 fun b H5=>if b=true then te σ2 H5 fun y H6=>H6 D=some (.lst ys)/\ys.length<sizeLine/\Pv (i+1) (ys++[y]) σ2 (upd H6 D (.lst (ys++[y]))) else Pv (i+1) ys σ2 H5)
  (fin:∀ ys σ' H',Pv xs.length ys σ' H'->Q (.ref D) H') :
  LC src J g tt te σ H1 Q D:=by
 refine ⟨fun i m ys σ' H'=>m=xs.length - i/\i<=xs.length/\Pv i ys σ' H',⟨xs.length,by simp,Nat.zero_le _,h0⟩,?_⟩;rintro i m ys σ' H2 ⟨rfl,hi,p⟩;obtain ⟨hp,hD⟩:=hP i ys σ' H2 p;refine ⟨hD,?_⟩;by_cases hlt:i<xs.length
 ·obtain ⟨go,yl⟩:=(hJ H2 hp i).1 xs[i] (by simp [hlt])
  refine .inr ⟨go,fun ys' σ3 H3=>Pv (i+1) ys' σ3 H3,fun ys' σ3 H3 p'=>⟨xs.length - (i+1),by omega,rfl,hlt,p'⟩,fun x H3 y=>?_⟩;obtain ⟨e1,e2⟩:=yl x H3 y;subst e1 e2;exact step i ys σ' _ _ (by simp [hlt]) p
 ·have e:i=xs.length:=by omega
  subst e;exact .inl ⟨(hJ H2 hp _).2 (Nat.le_refl _),fin ys σ' H2 p⟩
theorem Same.ao {H:Hp} {p:Addr} (h:H p=none) (o:HO):Same H (upd H p o):=fun b u q=>by rw [Yq (YF q h)];exact q
theorem Same.cu {H H':Hp} {p:Addr} (h:H p=none) (e:Same H H') (o:HO):Same H (upd H' p o):=fun b u q=>by rw [Yq (YF q h)];exact e b u q
theorem Same.tup {K:W.Frag} {H H':Hp} {a:Addr} {xs:List V} (e:Same H H') (h:aD K H a xs):aD K H' a xs:=by
 rcases h with (h | ⟨o,h⟩) | h
 ·exact .inl (.inl (e _ _ h))
 ·exact .inl (.inr ⟨o,e _ _ h⟩)
 ·exact .inr h
end
section
variable {X:Cx}
theorem FZ:∀ {bs:List Bool} {us:List Value},Yu (bs.map V.bl) us->LSm.BoolsAre us bs
 | [],_,h=>by rw [Yu.zero h];exact .nil
 | b::bs,us,h=>by
  have h':Yu (V.bl b::bs.map V.bl) us:=h
  cases h' with
  | cons r t=>cases (show _=Value.bool b from r);exact .cons b (FZ t)
theorem WK (hc:X.calm=true):Xt X (.builtin "all") (fun xs H Q=>∃ (p:Addr) (bs:List Bool),xs=[.ref p]/\au X.K H p (bs.map V.bl)/\Q (.bl (bs.all id)) H):=by
 intro pins s σ H xs us Q I r h;obtain ⟨p,bs,rfl,hq,q⟩:=h;obtain ⟨u,rfl,rx⟩:=XO r
 cases rx
 obtain ⟨its,r',pl,hz⟩:=I.list hq;have hb:=FZ r';have hl:=pl.isList;have hlt:p<s.heap.objs.size:=by obtain ⟨_,e,_⟩:=hl;exact Heap.lt_size e
 refine call_all_walk (wpAny_pyIter_list hl ?_);refine ⟨s.heap.objs.size,[s.heap.objs.size,p],[s.heap.objs.size],its.toArray.size,_,_,fun i=>(bs[i]?).getD true,rfl,Walks.list (A:=X.A.in1) (I.ok.hd hc) _ p (Nat.ne_of_lt hlt) its.toArray,
  ⟨⟨_,Heap.get?_push_size _ rfl,rfl,rfl⟩,hl.push _⟩,fun i v s' Q' E' hP hQ=>?_,fun h' tk hk=>?_⟩
 ·obtain ⟨b,e,rfl⟩:=hb.get i v (by simpa using hP)
  simp only [e,Option.getD_some] at hQ;exact wpAny_truthy_bool hQ
 ·have e:((List.range its.toArray.size).all fun i=>(bs[i]?).getD true)=bs.all id:=by
   rw [List.size_toArray,hb.length];exact LSm.range_all bs
  rw [e];exact ⟨.bl _,H,I.kept (t':=tk) (LSm.kept_iter hk),rfl,q⟩
theorem Ga:∀ {ys:List Str} {us:List Value},Yu (ys.map V.str) us->StrsAre us ys
 | [],_,h=>by rw [Yu.zero h];exact .nil
 | y::ys,us,h=>by
  have h':Yu (V.str y::ys.map V.str) us:=h
  cases h' with
  | cons r t=>obtain ⟨t',rfl⟩:=r;exact .cons y t' (Ga t)
def rJoin (K:W.Frag):V->List V->Hp->VK->Prop:=fun x vs H Q=>∃ (z:Str) (p:Addr) (ys:List Str),x = .str z/\vs=[.ref p]/\au K H p (ys.map V.str)/\(ys.map (·.length)).sum+ys.length*z.length<=16777216/\Q (.str (Txt.join z ys)) H
theorem VS:nj X "str.join" (rJoin X.K):=by
 intro pins s σ H x vs v us Q I rx rv h;obtain ⟨z,p,ys,rfl,rfl,hq,hl,q⟩:=h;obtain ⟨t,rfl⟩:=rx;obtain ⟨u,rfl,ru⟩:=rv.one
 cases ru
 obtain ⟨its,r,pl,hz⟩:=I.list hq;exact join_list pl.isList (by simpa using Ga r) hl fun t' k=>⟨.str _,H,I.tok k,⟨t',rfl⟩,q⟩
def V6:V->Option Value
 | .ty n=>some (.type n)
 | .ref a=>some (.ref a)
 | _=>none
theorem WU:Xt X (.builtin "isinstance") (fun xs H Q=>∃ x c cv t b,xs=[x,c]/\V6 c=some cv/\f9 X.K H x t/\W.kitOne X.K t cv=some b/\Q (.bl b) H):=by
 intro pins s σ H xs us Q I r h;obtain ⟨x,c,cv,t,b,rfl,ec,ty,e,q⟩:=h;obtain ⟨u,w',rfl,ru,g8⟩:=rO r;have ew:w'=cv:=by
  cases c with
  | ty n=>cases (show w'=Value.type n from g8);simpa [V6] using ec
  | ref a=>cases (show w'=Value.ref a from g8);simpa [V6] using ec
  | _=>simp [V6] at ec
 subst ew;exact RV I ru ty e fun tk=>⟨.bl b,H,I.tok tk,rfl,q⟩
end
section
variable {X:Cx} {pins:List (Addr×Obj)} {σ:St} {H:Hp} {s:Shared} {h':Heap}
theorem Inv.uq {t':Nat} {ch:List Addr} (I:Inv X pins σ H s) (k:∀ b o,b∉ch->s.heap.get? b=some o->h'.get? b=some o) (hf:∀ b∈ch,W3 X pins H b):Inv X pins σ H { s with heap:=h',toks:=t' }:=by
 have oV:∀ b u,H b=some u->b∉ch:=fun b u e z=>by rw [(hf b z).1] at e;cases e
 refine I.step (g':=s.gens) (d':=s.drawn) (ch:=ch) (fun b hb=>?_) (fun b o _ _ hc e _=>k b o hc e) (fun b o _ _ hc e _=>⟨o.slots,k b o hc e⟩) (fun _ _ _ _ n=>n)
  (fun b o hc e=>⟨o,k b o hc e⟩) (fun _ _ e=>e) (fun _ _ _ e=>e) (fun b ps e=>⟨#[],by rw [e];simp⟩) (fun m hm=>?_) (fun b u e=>?_) I.bare
 ·obtain ⟨f0,f1,f2,f3,f4,f5⟩:=hf b hb
  exact ⟨f3,f1,f4,f5⟩
 ·obtain ⟨o,es,ep,ho,r⟩:=hm
  exact ⟨o,es,ep,k _ o (fun z=>(hf _ z).2.1 rfl) ho,r⟩
 ·refine (I.hok b u e).stay (fun c v hc q=>k c v ?_ q) (fun _ q=>q) fun _ _ q=>q
  rcases hc with z | z
  ·rw [z];exact oV b u e
  ·exact oV c _ z
end
section
variable {X:Cx} {elts:List Expr} {kk:Nat} {tpos:Pos}
theorem UW {J:It} {P:Hp->Prop} {xs:List V} (hJ:Ws J P xs) {src:List (Option Nat)} {g:TG} {te:TE} {σ:St} {H1:Hp} {Q:VK} {D:Addr} (Pv:Nat->List V->St->Hp->Prop)
  (h0:Pv 0 [] (YV src σ) (upd H1 D (.lst []))) (hP:∀ i ys σ' H',Pv i ys σ' H'->P H'/\H' D=some (.lst ys))
  (mono:∀ x σ H Q Q',(∀ σ' H',Q σ' H'->Q' σ' H')->g x σ H Q->g x σ H Q')
  (step:∀ i ys σ' H' x,xs[i]?=some x->Pv i ys σ' H'->g x σ' H' fun σ2 H4=>te σ2 H4 fun y H6=>H6 D=some (.lst ys)/\ys.length<sizeLine/\Pv (i+1) (ys++[y]) σ2 (upd H6 D (.lst (ys++[y]))))
  (fin:∀ ys σ' H',Pv xs.length ys σ' H'->Q (.ref D) H'):LC src J g WJ te σ H1 Q D :=
 FW hJ Pv h0 hP (fun i ys σ' H' x hx p=>by
  refine mono _ _ _ _ _ ?_ (step i ys σ' H' x hx p);intro σ2 H4 q;unfold WJ;dsimp only;rw [if_pos rfl];exact q) fin
theorem Vb (i:Nat):∀ x σ H Q Q',(∀ σ' H',Q σ' H'->Q' σ' H')->YD i x σ H Q->YD i x σ H Q':=fun _ _ _ _ _ h q=>h _ _ q
theorem TX {J:It} {P:Hp->Prop} {n:Nat} (hgo:∀ i H,P H->i<n->J.go i H) (hstop:∀ H,P H->J.stop n H) {g:TG} {tb:TS} {D:Ends} {σ:St} {H:Hp} (Pv:Nat->St->Hp->Prop) (h0:Pv 0 σ H) (hP:∀ i σ H,Pv i σ H->P H)
  (hs:∀ i σ H,i<n->Pv i σ H->∀ x H',J.jt i H x H'->g x σ H' fun σ2 H2=>tb { D with nx:=Pv (i+1),ct:=Pv (i+1),bk:=D.nx } σ2 H2) (hd:∀ σ H,Pv n σ H->D.nx σ H) :
  ∃ W:Nat->Nat->St->Hp->Prop,(∃ m,W 0 m σ H)/\∀ i m σ H,W i m σ H ->
   (J.stop i H/\D.nx σ H)\/(J.go i H/\∃ N:St->Hp->Prop,(∀ σ' H',N σ' H'->∃ m',m'<m/\W (i+1) m' σ' H')/\∀ x H',J.jt i H x H'->g x σ H' fun σ2 H2=>tb { D with nx:=N,ct:=N,bk:=D.nx } σ2 H2):=by
 refine ⟨fun i m σ H=>m=n - i/\i<=n/\Pv i σ H,⟨n,by simp,Nat.zero_le _,h0⟩,?_⟩;rintro i m σ H ⟨rfl,hi,p⟩;have q:=hP i σ H p;by_cases hlt:i<n
 ·exact .inr ⟨hgo i H q hlt,Pv (i+1),fun σ' H' p'=>⟨n - (i+1),by omega,rfl,hlt,p'⟩,fun x H' y=>hs i σ H hlt p x H' y⟩
 ·have e:i=n:=by omega
  subst e;exact .inl ⟨hstop H q,hd σ H p⟩
theorem TY {z:Str} {g:TG} {tb:TS} {D:Ends} {σ:St} {H:Hp} (Pv:Nat->St->Hp->Prop) (h0:Pv 0 σ H)
  (hs:∀ i c σ H,z.cps.toList[i]?=some c->Pv i σ H->g (.str ⟨#[c]⟩) σ H fun σ2 H2=>tb { D with nx:=Pv (i+1),ct:=Pv (i+1),bk:=D.nx } σ2 H2) (hd:∀ σ H,Pv z.cps.toList.length σ H->D.nx σ H) :
  ∃ W:Nat->Nat->St->Hp->Prop,(∃ m,W 0 m σ H)/\∀ i m σ H,W i m σ H ->
   ((Its z).stop i H/\D.nx σ H)\/((Its z).go i H/\∃ N:St->Hp->Prop,(∀ σ' H',N σ' H'->∃ m',m'<m/\W (i+1) m' σ' H')/\∀ x H',(Its z).jt i H x H'->g x σ H' fun σ2 H2=>tb { D with nx:=N,ct:=N,bk:=D.nx } σ2 H2) :=
 TX (P:=fun _=>True) (n:=z.cps.toList.length) (fun i H _ hi=>by show i<z.cps.size;simpa using hi) (fun H _=>by show z.cps.size<=_;simp) Pv h0 (fun _ _ _ _=>trivial)
  (fun i σ H hi p x H' y=>by
   obtain ⟨e,c,hc,e2⟩:=y;subst e e2;exact hs i c σ _ hc p) hd
end
structure Gx where
 P:Program
 w:World
 K:W.Frag
 mg:Str->Option Value
 base:Heap
def Cx.gx (X:Cx):Gx:=⟨X.prog,X.w,X.K,X.mg,X.base⟩
def Gx.Raw (g:Gx) (x qual:Str) (st:Stmt) (ps:List Str):Prop:=∃ f fd,jw g.K x qual st f fd/\Xn g.K fd ps []/\g.mg x=some (.ref f)
def Gx.Fn (g:Gx) (k:Nat) (x:Str) (ps:List Str) (sp:Sp):Prop:=∃ f fd,dZ g.P g.w g.K g.mg g.base jH k f fd ps sp/\Xn g.K fd ps []/\W.keepIn g.K (.ref f)=true/\g.mg x=some (.ref f)
def Gx.eX (g:Gx) (C:Addr) (m qual:Str) (st:Stmt) (ps:List Str):Prop:=∃ f fd,jw g.K m qual st f fd/\Xn g.K fd ps []/\Meth g.K C m f
def Gx.Me (g:Gx) (k:Nat) (C:Addr) (m:Str) (ps:List Str) (sp:Sp):Prop:=∃ f fd,dZ g.P g.w g.K g.mg g.base jH k f fd ps sp/\Xn g.K fd ps []/\Meth g.K C m f
def Gx.lH (g:Gx) (x:Str) (C:Addr) (qual:Str) (st:Stmt) (ps:List Str):Prop:=∃ f fd,jw g.K "__init__" qual st f fd/\Xn g.K fd ps []/\Mk g.K C f/\g.mg x=some (.ref C)
def Gx.Ma (g:Gx) (k:Nat) (x:Str) (C:Addr) (ps:List Str) (sp:Sp):Prop:=∃ f fd,dZ g.P g.w g.K g.mg g.base jH k f fd ps sp/\Xn g.K fd ps []/\Mk g.K C f/\g.mg x=some (.ref C)
def Gx.fY (g:Gx) (x:Str) (v:V):Prop:=∃ u,g.mg x=some u/\YC v u
abbrev Gx.cx (g:Gx) (N:List Str) (qual:Str) (st:Stmt) (f:Addr) (cdv:Value) (A:Around) (outer:List Env) (s:Shared) (H:Hp) (E:XK):Cx:=(VJ jH g.P g.w g.K g.mg g.base N qual (Yh st) f cdv A outer s H E).cO
def Ql (g:Gx) (k:Nat) (N:List Str) (qual:Str) (st:Stmt) (sp:Sp):Prop:=∀ (f:Addr) (cdv:Value) (A:Around) (outer:List Env) (s:Shared) (H:Hp) (vs:List V) (Q:VK) (E:XK),aR k (g.cx N qual st f cdv A outer s H E).A->sp vs H Q E ->
 ∃ t,gn (g.cx N qual st f cdv A outer s H E) (Xa st) t/\t { nx:=fun _ H'=>Q .non H',rt:=Q } (Wc N vs) H
section
variable {g:Gx} {k:Nat} {x qual m:Str} {st:Stmt} {N ps:List Str} {sp:Sp} {C:Addr}
theorem Gx.Raw.fn (R:g.Raw x qual st ps) (S:aq N ps (Yh st)) (len:∀ vs H Q E,sp vs H Q E->vs.length=ps.length) (b:Ql g k N qual st sp):g.Fn (k+1) x ps sp:=by
 obtain ⟨f,fd,F,bd,hm⟩:=R;exact ⟨f,fd,F.ok S len fun cdv A outer s H vs Q E hr h=>b f cdv A outer s H vs Q E hr h,bd,F.kp,hm⟩
theorem Gx.eX.me (R:g.eX C m qual st ps) (S:aq N ps (Yh st)) (len:∀ vs H Q E,sp vs H Q E->vs.length=ps.length) (b:Ql g k N qual st sp):g.Me (k+1) C m ps sp:=by
 obtain ⟨f,fd,F,bd,hm⟩:=R;exact ⟨f,fd,F.ok S len fun cdv A outer s H vs Q E hr h=>b f cdv A outer s H vs Q E hr h,bd,hm⟩
theorem Gx.lH.ma (R:g.lH x C qual st ps) (S:aq N ps (Yh st)) (len:∀ vs H Q E,sp vs H Q E->vs.length=ps.length) (b:Ql g k N qual st sp):g.Ma (k+1) x C ps sp:=by
 obtain ⟨f,fd,F,bd,hm,hg⟩:=R;exact ⟨f,fd,F.ok S len fun cdv A outer s H vs Q E hr h=>b f cdv A outer s H vs Q E hr h,bd,hm,hg⟩
theorem Gx.Fn.mono {j:Nat} (F:g.Fn j x ps sp) (h:j<=k):g.Fn k x ps sp:=by
 obtain ⟨f,fd,F,r⟩:=F;exact ⟨f,fd,F.mono h,r⟩
theorem Gx.Me.mono {j:Nat} (F:g.Me j C m ps sp) (h:j<=k):g.Me k C m ps sp:=by
 obtain ⟨f,fd,F,r⟩:=F;exact ⟨f,fd,F.mono h,r⟩
theorem Gx.Raw.none (R:g.Raw x qual st ps) (no:∀ vs H Q E,¬ sp vs H Q E):g.Fn k x ps sp:=by
 obtain ⟨f,fd,F,bd,hm⟩:=R;exact ⟨f,fd,⟨fun vs H Q E h=>absurd h (no vs H Q E),fun A outer s H args us vs Q E _ _ _ _ h=>absurd h (no vs H Q E)⟩,bd,F.kp,hm⟩
end
section
variable {g:Gx} {X:Cx} {k j:Nat} {x m:Str} {ps:List Str} {sp:Sp} {C:Addr} {e o:Expr} {es:List Expr} {t:TA} {ta:TE} {p pos apos:Pos}
theorem YM (F:g.Fn j x ps sp) (hr:aR k X.A) (ha:PA X (e::es) t) (hj:j<=k:=by omega) (hX:X.gx=g:=by rfl) (hg:Gl X x:=by rfl) (hdb:(x==("__debug__":Str))=false:=by decide)
  (he:starEach (e::es) X.env=(false,eval e X.env)::starEach es X.env:=by rfl) (hpl:(backTo pos (starEach es X.env)).any (·.1)=false:=by rfl):PE X (.Call (.Name x p) (e::es) [] pos) (rQ sp [] E0 t):=by
 subst hX;obtain ⟨f,fd,F,b,kp,hm⟩:=F;exact Ei F (hr.mono hj) hg hm kp b .nil Qy ha hdb he hpl
theorem QB {pl:Sem Bool} (F:g.Me j C m ps sp) (c:Cls g.K C) (hr:aR k X.A) (ho:PE X o ta) (ha:PA X (e::es) t) (hj:j<=k:=by omega) (hX:X.gx=g:=by rfl)
  (hst:starEach (e::es) X.env=(false,eval e X.env)::starEach es X.env:=by rfl) (hpl:(backTo pos (starEach es X.env)).any (·.1)=false:=by rfl)
  (ht:eval (.Call (.Attribute o m apos) (e::es) [] pos) X.env=(do
   let ov <- eval o X.env
   standAt apos.atName
   let (f,first) <- holding [ov] (getMethod ov m pl)
   callWith pos f first (backTo pos (starEach (e::es) X.env)) (backToKw pos (keywordEach [] X.env))):=by rfl):PE X (.Call (.Attribute o m apos) (e::es) [] pos) (UU C m sp [] E0 ta t):=by
 subst hX;obtain ⟨f,fd,F,b,hm⟩:=F;exact RZ ho c hm F (hr.mono hj) b .nil Qy ha hst hpl ht
theorem Uv {pl:Sem Bool} (F:g.Me j C m ps sp) (c:Cls g.K C) (hr:aR k X.A) (ho:PE X o ta) (hj:j<=k:=by omega) (hX:X.gx=g:=by rfl)
  (ht:eval (.Call (.Attribute o m apos) [] [] pos) X.env=(do
   let ov <- eval o X.env
   standAt apos.atName
   let (f,first) <- holding [ov] (getMethod ov m pl)
   callWith pos f first (backTo pos (starEach [] X.env)) (backToKw pos (keywordEach [] X.env))):=by rfl):PE X (.Call (.Attribute o m apos) [] [] pos) (UU C m sp [] E0 ta QY):=by
 subst hX;obtain ⟨f,fd,F,b,hm⟩:=F;exact Ej ho c hm F (hr.mono hj) b .nil Qy ht
theorem Ci (F:g.Ma j x C ps sp) (hr:aR k X.A) (ha:PA X (e::es) t) (hj:j+1<=k:=by omega) (hX:X.gx=g:=by rfl) (hg:Gl X x:=by rfl) (hdb:(x==("__debug__":Str))=false:=by decide)
  (he:starEach (e::es) X.env=(false,eval e X.env)::starEach es X.env:=by rfl) (hpl:(backTo pos (starEach es X.env)).any (·.1)=false:=by rfl):PE X (.Call (.Name x p) (e::es) [] pos) (vd C sp [] E0 t):=by
 subst hX;obtain ⟨f,fd,F,b,M,hm⟩:=F;exact R4 M F (hr.mono hj) hg hm b .nil Qy ha hdb he hpl
theorem Vc {v:V} (F:g.fY x v) (hX:X.gx=g:=by rfl) (hg:Gl X x:=by rfl) (hd:(x==("__debug__":Str))=false:=by decide):PE X (.Name x pos) (tC v):=by
 subst hX;obtain ⟨u,hm,r⟩:=F;exact QW hg hm r hd
theorem YJ {id:String} {r:List V->Hp->VK->Prop} (hm:g.mg x=none) (hc:Xt X (.builtin id) r) (ha:PA X (e::es) t) (hv:bootBuiltins x=some (.builtin id):=by decide +kernel) (hX:X.gx=g:=by rfl) (hg:Gl X x:=by rfl) (hn:x≠"__name__":=by decide) (hdb:(x==("__debug__":Str))=false:=by decide)
  (he:starEach (e::es) X.env=(false,eval e X.env)::starEach es X.env:=by rfl) (hpl:(backTo pos (starEach es X.env)).any (·.1)=false:=by rfl):PE X (.Call (.Name x p) (e::es) [] pos) (o7 r t):=by
 subst hX;exact R6 hc hg hm hv ha hn hdb he hpl
theorem XZ {T:String} {r:List V->Hp->VK->Prop} (hm:g.mg x=none) (hc:Xt X (.type T) r) (ha:PA X (e::es) t) (hv:bootBuiltins x=some (.type T):=by decide +kernel) (hX:X.gx=g:=by rfl) (hg:Gl X x:=by rfl) (hn:x≠"__name__":=by decide) (hdb:(x==("__debug__":Str))=false:=by decide)
  (he:starEach (e::es) X.env=(false,eval e X.env)::starEach es X.env:=by rfl) (hpl:(backTo pos (starEach es X.env)).any (·.1)=false:=by rfl):PE X (.Call (.Name x p) (e::es) [] pos) (o7 r t):=by
 subst hX;exact R7 hc hg hm hv ha hn hdb he hpl
theorem QC {T:String} (hm:g.mg x=none) (hv:bootBuiltins x=some (.type T):=by decide +kernel) (hX:X.gx=g:=by rfl) (hg:Gl X x:=by rfl) (hn:x≠"__name__":=by decide) (hdb:(x==("__debug__":Str))=false:=by decide):PE X (.Name x pos) (tC (.ty T)):=by
 subst hX;exact Rk hg hm hv rfl hn hdb
end
theorem Gb {H:Hp} {p:Addr} {o:HO} (h:H p=some o):upd H p o=H:=by
 funext b
 unfold upd
 split
 ·rename_i e;rw [e,h]
 ·rfl
def S (l:List Nat):Str:=⟨l.toArray⟩
theorem YZ (l:List Nat):(S l).cps.toList=l:=by simp [S]
theorem Ys (l:List Nat):(S l).length=l.length:=by simp [S,Str.length]
theorem YE (a b:List Nat):S a++S b=S (a++b):=by
 show Str.append (S a) (S b)=S (a++b)
 simp [Str.append,S]
theorem Y8 {a b:List Nat} (h:S a=S b):a=b:=by
 have:=congrArg (fun x:Str=>x.cps.toList) h;simpa [YZ] using this
theorem Ge (c:Nat):(⟨#[c]⟩:Str)=S [c]:=rfl
theorem Gf (l:List Nat) (i j:Nat):Vo (S l) (some (i:Int)) (some (j:Int))=S ((l.drop i).take (j - i)):=by
 unfold Vo;rw [YZ,Ys,HT.iR,HT.iR]
 show S _=S _
 congr 1
 by_cases h:i<=l.length
 ·rw [Nat.min_eq_left h]
  by_cases h2:j<=l.length
  ·rw [Nat.min_eq_left h2]
  ·rw [Nat.min_eq_right (by omega)]
   rw [List.take_of_length_le (by simp),List.take_of_length_le (by simp;omega)]
 ·have e:min i l.length=l.length:=Nat.min_eq_right (by omega)
  rw [e,List.drop_eq_nil_of_le (Nat.le_refl l.length),List.drop_eq_nil_of_le (show l.length<=i by omega)];simp
theorem T3 (l:List Nat) (i:Nat):Vo (S l) (some (i:Int)) none=S (l.drop i):=by
 unfold Vo;rw [YZ,Ys,HT.iR,HT.jC]
 show S _=S _
 congr 1
 by_cases h:i<=l.length
 ·rw [Nat.min_eq_left h,List.take_of_length_le (by simp)]
 ·rw [Nat.min_eq_right (by omega),List.drop_eq_nil_of_le (Nat.le_refl _),List.drop_eq_nil_of_le (by omega)]
  simp
def Yp (s:List Nat):List (List Nat)->List Nat
 | []=>[]
 | [x]=>x
 | x::y::r=>x++s++Yp s (y::r)
theorem X9 (s:List Nat):∀ ys:List (List Nat),Txt.join (S s) (ys.map S)=S (Yp s ys):=fun ys=>by
 have e:Txt.join (S s) (ys.map S)=Str.join (S s) (ys.map S):=eq_of_beq (join_plain_closes _ _);rw [e]
 induction ys with
 | nil=>rfl
 | cons x r ih =>
  cases r with
  | nil=>rfl
  | cons y r =>
   have ih':=ih (eq_of_beq (join_plain_closes _ _))
   show S x++S s++Str.join (S s) ((y::r).map S)=_
   rw [ih',YE,YE];rfl
theorem T7 (ys:List (List Nat)):((ys.map S).map (·.length)).sum=(ys.map List.length).sum:=by
 rw [List.map_map,show ((fun x:Str=>x.length) ∘ S)=List.length from funext Ys]
theorem Gg (c:Nat):∀ ys:List (List Nat),(ys.map List.length).sum+ys.length<=(Yp [c] ys).length+1
 | []=>by simp [Yp]
 | [x]=>by simp [Yp]
 | x::y::r=>by
  have:=Gg c (y::r)
  show x.length+((y::r).map List.length).sum+((y::r).length+1)<=(x++[c]++Yp [c] (y::r)).length+1
  rw [List.length_append,List.length_append,List.length_singleton];omega
section
variable {K:W.Frag} {h:Heap} {mg:Str->Option Value} {P:Program} {w:World} {base:Heap} {f C:Addr} {x qual m:Str} {st:Stmt} {ps:List Str} {oc kV dc pm cd ct:Value} {od an:Option Addr} {sl:Array (Option Value)}
theorem YA (X:K.In h) (G:h.Ns mainGlobals mg) (ps:List Str)
  (a:PySem.W.nsIn K mainGlobals x=some (some (.ref f))) (l:K.lookup f=some ⟨oc,od,.func (PySem.W.fnOf x x (Xo st) (Xa st) (Yh st) .none kV dc pm an cd ct),sl⟩) (c:PySem.W.codeIn K cd x=true) (k:PySem.W.keepIn K (.ref f)=true)
  (b:∀ (kV doc pm:Value) (an:Option Addr) (cdv ct:Value) (us:List Value),us.length=ps.length->bindArgs (PySem.W.fnOf x x (Xo st) (Xa st) (Yh st) .none kV doc pm an cdv ct) ⟨us,[]⟩=pure (ps.zip us)) :
  ∀ P w base,(Gx.mk P w K mg base).Raw x x st ps:=fun P w base =>
 have F:=Ut (st:=st) l c k
 ⟨f,_,F,F.binds b,PySem.W.mg_of X G a⟩
theorem Vi (X:K.In h) (G:h.Ns mainGlobals mg) (ps:List Str)
  (a:PySem.W.findIn K (.ref C) m=some (some (.ref f))) (i:PySem.W.isFn K (.ref f)=true) (l:K.lookup f=some ⟨oc,od,.func (PySem.W.fnOf m qual (Xo st) (Xa st) (Yh st) .none kV dc pm an cd ct),sl⟩) (c:PySem.W.codeIn K cd qual=true) (k:PySem.W.keepIn K (.ref f)=true)
  (b:∀ (kV doc pm:Value) (an:Option Addr) (cdv ct:Value) (us:List Value),us.length=ps.length->bindArgs (PySem.W.fnOf m qual (Xo st) (Xa st) (Yh st) .none kV doc pm an cdv ct) ⟨us,[]⟩=pure (ps.zip us)) :
  ∀ P w base,(Gx.mk P w K mg base).eX C m qual st ps:=fun P w base =>
 have F:=Ut (st:=st) l c k
 ⟨f,_,F,F.binds b,⟨a,i,k⟩⟩
theorem T8 (X:K.In h) (G:h.Ns mainGlobals mg) (ps:List Str) (aC:PySem.W.nsIn K mainGlobals x=some (some (.ref C))) (mk:PySem.W.makesIn K C=true) (kc:PySem.W.keepIn K (.ref C)=true)
  (a:PySem.W.findIn K (.ref C) "__init__"=some (some (.ref f))) (i:PySem.W.isFn K (.ref f)=true) (l:K.lookup f=some ⟨oc,od,.func (PySem.W.fnOf "__init__" qual (Xo st) (Xa st) (Yh st) .none kV dc pm an cd ct),sl⟩) (c:PySem.W.codeIn K cd qual=true) (k:PySem.W.keepIn K (.ref f)=true)
  (b:∀ (kV doc pm:Value) (an:Option Addr) (cdv ct:Value) (us:List Value),us.length=ps.length->bindArgs (PySem.W.fnOf "__init__" qual (Xo st) (Xa st) (Yh st) .none kV doc pm an cdv ct) ⟨us,[]⟩=pure (ps.zip us)) :
  ∀ P w base,(Gx.mk P w K mg base).lH x C qual st ps:=fun P w base =>
 have F:=Ut (st:=st) l c k
 ⟨f,_,F,F.binds b,⟨mk,a,i,kc⟩,PySem.W.mg_of X G aC⟩
theorem X6 (X:K.In h) (G:h.Ns mainGlobals mg) {i:Int} {t:Tok} (a:W.nsIn K mainGlobals x=some (some (.int i t))):∀ P w base,(Gx.mk P w K mg base).fY x (.int i):=fun P w base=>⟨_,W.mg_of X G a,t,rfl⟩
end
def QD (K:W.Frag):Sp:=fun vs H Q _=>∃ (a:Addr) (ns:List Int),vs=[.ref a]/\au K H a (ns.map V.int)/\ns.length<=63/\∀ H',Q (.bl true) H'
def Gh (K:W.Frag) (mg:Str->Option Value) (st:Stmt) (x n:Str):Prop:=∃ f fd,jw K n n st f fd/\(∀ (s:Shared) (u:Value),BindsTo s fd ⟨[u],[]⟩ [(x,u)])/\mg n=some (.ref f)
theorem T9 {K:W.Frag} {h:Heap} {mg:Str->Option Value} {f:Addr} {x n:Str} {st:Stmt} {oc kV dc pm cd ct:Value} {od an:Option Addr} {sl:Array (Option Value)} (X:K.In h) (G:h.Ns mainGlobals mg)
  (a:W.nsIn K mainGlobals n=some (some (.ref f))) (l:K.lookup f=some ⟨oc,od,.func (W.fnOf n n (Xo st) (Xa st) (Yh st) .none kV dc pm an cd ct),sl⟩) (c:W.codeIn K cd n=true) (k:W.keepIn K (.ref f)=true)
  (b:∀ (kV doc pm:Value) (an:Option Addr) (cdv ct:Value) (s:Shared) (u:Value),BindsTo s (W.fnOf n n (Xo st) (Xa st) (Yh st) .none kV doc pm an cdv ct) ⟨[u],[]⟩ [(x,u)]):Gh K mg st x n :=
 ⟨f,_,Ut (st:=st) l c k,b kV dc pm an cd ct,W.mg_of X G a⟩
theorem Yg3 {l:PySem.W.OpenLaw} {q:Program} {loose:List Str} {XP:(Str->Option Value)->Heap->Prop} {YP:World->Heap->Prop} {d:DefRec} {K:Params->PySem.W.Frag} (k:Nat) (x:Str) (st:Stmt) (N:List Str) (hn:l.most=some 63) (hdf:d.params.defaults=[]) (hk:aR (k+1) callerA) (S:aq N [x] (Yh st))
  (hY:∀ (w:World) (h:Heap),YP w h->(K w.params).In h)
  (F:∀ (w:World) (mg:Str->Option Value) (h:Heap),(K w.params).In h->h.Ns mainGlobals mg->Gh (K w.params) mg st x d.name/\∀ base,Ql (Gx.mk l.prog w (K w.params) mg base) k N d.name st (QD (K w.params))) :
  PySem.W.WalkO q loose XP YP l.row.toRowW d [] (fun f vs=>PySem.call f vs):=by
 refine L2.S9 (n:=63) (k:=k+1) (x:=x) (CX:=fun _=>jH) (sp:=fun w=>QD (K w.params)) hn (by decide) hdf hk hY (fun w mg fa h KX G hmg=>?_) (fun _ _ a ns hl _ hS=>⟨a,ns,rfl,hS,hl,fun _=>rfl⟩) fun _ _ _ _ _ z=>z
 obtain ⟨⟨f,fd,Fu,hb,hm⟩,B⟩:=F w mg h KX G;have e:=hmg.symm.trans hm
 cases e
 exact ⟨fd,hb,fun base _ _=>Fu.ok S (fun vs H Q E h=>by obtain ⟨a,ns,rfl,_⟩:=h;rfl) fun cdv A outer s H vs Q E hr h=>B base fa cdv A outer s H vs Q E hr h⟩
section
variable {X:Cx}
def Gi (i j:Int):Prop:=0<j/\j.natAbs<2^9000
theorem X3:cR X (binaryOp .FloorDiv) (rI Gi fun i j => .int (i / j)):=uR fun i j _ _ _ _ _ hc q=>by
 have h1:(0:Int)<j:=hc.1;have h2:=hc.2;have h3:j.natAbs≠0:=by omega
 exact floordiv_int (by omega) (by rw [Int.fdiv_eq_ediv_of_nonneg i (by omega)];exact q) (.inl (PyProof.noPylong_of_log2 ((Nat.log2_lt h3).mpr h2)))
theorem XN {j:Int} (h:0<j) (h2:j<1073741824) {i:Int}:Gi i j:=⟨h,Nat.lt_of_lt_of_le (show j.natAbs<2^30 by omega) (Nat.pow_le_pow_right (by decide) (by decide))⟩
end
theorem YhV {CX:gP} {P:Program} {w:World} {K:W.Frag} {mg:Str->Option Value} {base:Heap} {N:List Str} {qual:Str} {scope:Scope} {f:Addr} {cd:Value} {A:Around} {outer:List Env} {s:Shared} {H:Hp} {E:XK} :
  (VJ CX P w K mg base N qual scope f cd A outer s H E).K=K:=rfl
theorem Cj {X:Cx}:X.cO.K=X.K:=rfl
section
variable {g:TG} {tb:TS} {D:Ends} {σ:St} {H:Hp}
theorem VM {ta:TA} {n:Nat} (Pv:Nat->St->Hp->Prop) (ha:∀ R:List V->Hp->Prop,R [.int n] H->ta σ H R) (hn:n<2^62) (h0:Pv 0 σ H)
  (hs:∀ i σ H,i<n->Pv i σ H->g (.int i) σ H fun σ2 H2=>tb { D with nx:=Pv (i+1),ct:=Pv (i+1),bk:=D.nx } σ2 H2) (hd:∀ σ H,Pv n σ H->D.nx σ H):oY (rK ta) g tb D σ H:=by
 refine ha _ ⟨n,rfl,by omega,by omega,?_⟩;refine DP (lo:=0) (n:=n) Pv h0 (fun i σ H hi p=>?_) hd;have e:(0:Int)+i=i:=by omega
 rw [e];exact hs i σ H hi p
theorem Wj {K:W.Frag} {tl:TE} {a:Addr} {xs:List V} (Pv:Nat->St->Hp->Prop) (ha:∀ R:V->Hp->Prop,R (.ref a) H->tl σ H R) (h0:Pv 0 σ H) (hl:∀ i σ H,i<=xs.length->Pv i σ H->au K H a xs)
  (hs:∀ i x σ H,xs[i]?=some x->Pv i σ H->g x σ H fun σ2 H2=>tb { D with nx:=Pv (i+1),ct:=Pv (i+1),bk:=D.nx } σ2 H2) (hd:∀ σ H,Pv xs.length σ H->D.nx σ H):oY (V0 K tl) g tb D σ H:=by
 refine ha _ ⟨a,rfl,⟨xs,hl 0 σ H (Nat.zero_le _) h0⟩,?_⟩;exact DN Pv h0 hl hs hd
end
mutual
inductive Den (K:W.Frag) (H:Hp):V->PyData->Prop
 | non:Den K H .non .none
 | bl (b:Bool):Den K H (.bl b) (.bool b)
 | int (i:Int):Den K H (.int i) (.int i)
 | str (x:Str) (h:PyData.strOk x=true):Den K H (.str x) (.str x)
 | lst {a:Addr} {vs:List V} {ds:List PyData}:au K H a vs->gD K H vs ds->Den K H (.ref a) (.list ds)
 | tup {a:Addr} {vs:List V} {ds:List PyData}:aD K H a vs->gD K H vs ds->Den K H (.ref a) (.tuple ds)
inductive gD (K:W.Frag) (H:Hp):List V->List PyData->Prop
 | nil:gD K H [] []
 | cons {v:V} {d:PyData} {vs:List V} {ds:List PyData}:Den K H v d->gD K H vs ds->gD K H (v::vs) (d::ds)
end
mutual
theorem Den.keep {K:W.Frag} {H H':Hp} (e:Same H H'):∀ {v:V} {d:PyData},Den K H v d->Den K H' v d
 | _,_,.non => .non
 | _,_,.bl b => .bl b
 | _,_,.int i => .int i
 | _,_,.str x h => .str x h
 | _,_,.lst h hs => .lst (e.seq h) (hs.keep e)
 | _,_,.tup h hs => .tup (e.tup h) (hs.keep e)
theorem gD.keep {K:W.Frag} {H H':Hp} (e:Same H H'):∀ {vs:List V} {ds:List PyData},gD K H vs ds->gD K H' vs ds
 | _,_,.nil => .nil
 | _,_,.cons h hs => .cons (h.keep e) (hs.keep e)
end
mutual
theorem Den.lay {K:W.Frag} {H:Hp}:∀ {v:V} {d:PyData},Den K H v d->d.canLay0=true
 | _,_,.non=>rfl
 | _,_,.bl b=>rfl
 | _,_,.int i=>rfl
 | _,_,.str x h=>by simpa [PyData.canLay0] using h
 | _,_,.lst _ hs=>by rw [PyData.canLay0];exact hs.lay
 | _,_,.tup _ hs=>by rw [PyData.canLay0];exact hs.lay
theorem gD.lay {K:W.Frag} {H:Hp}:∀ {vs:List V} {ds:List PyData},gD K H vs ds->PyData.canLayAll0 ds=true
 | _,_,.nil=>rfl
 | _,_,.cons h hs=>by rw [PyData.canLayAll0,h.lay,hs.lay];rfl
end
section
variable {X:Cx}
mutual
theorem Den.reads {pins:List (Addr×Obj)} {σ:St} {H:Hp} {s:Shared} (I:Inv X pins σ H s):∀ {v:V} {d:PyData} {u:Value},Den X.K H v d->YC v u->∃ as,Reads s.heap u d as
 | _,_,u,.non,r=>by cases (show u = .none from r);exact ⟨_,.none⟩
 | _,_,u,.bl b,r=>by cases (show u = .bool b from r);exact ⟨_,.bool b⟩
 | _,_,u,.int i,r=>by obtain ⟨t,rfl⟩:=r;exact ⟨_,.int i t⟩
 | _,_,u,.str x h,r=>by obtain ⟨t,rfl⟩:=r;exact ⟨_,.str x t⟩
 | _,_,u,.lst (a:=a) h hs,r=>by
  cases (show u = .ref a from r)
  obtain ⟨its,rv,pl,hz⟩:=I.list h;obtain ⟨as,ra⟩:=hs.reads I rv;obtain ⟨o,e1,e2,n,e3⟩:=pl.isList;exact ⟨_,.list e1 e2 e3 (by simpa using ra)⟩
 | _,_,u,.tup (a:=a) h hs,r=>by
  cases (show u = .ref a from r)
  obtain ⟨its,rv,pl,hz⟩:=I.tuple h;obtain ⟨as,ra⟩:=hs.reads I rv;obtain ⟨o,e1,e2,n,e3⟩:=(show s.heap.IsTuple a its.toArray from pl);exact ⟨_,.tuple e1 e2 e3 (by simpa using ra)⟩
theorem gD.reads {pins:List (Addr×Obj)} {σ:St} {H:Hp} {s:Shared} (I:Inv X pins σ H s):∀ {vs:List V} {ds:List PyData} {us:List Value},gD X.K H vs ds->Yu vs us->∃ as,ReadsAll s.heap us ds as
 | _,_,us,.nil,r=>by cases r;exact ⟨_,.nil⟩
 | _,_,us,.cons h hs,r=>by
  cases r with
  | cons r rr =>
   obtain ⟨as,ra⟩:=h.reads I r;obtain ⟨bs,rb⟩:=hs.reads I rr;exact ⟨_,.cons ra rb⟩
end
theorem vQ (hu:X.A.units+64<cLine):cR X (compareOp .Eq) (fun x y H Q=>∃ d e,Den X.K H x d/\Den X.K H y e/\d.depth<=64/\Q (.bl (PyData.eqv d e)) H):=by
 intro pins s σ H x y v u Q I rx ry h;obtain ⟨d,e,hd,he,dp,q⟩:=h;obtain ⟨as,ra⟩:=hd.reads I rx;obtain ⟨bs,rb⟩:=he.reads I ry;exact SeqAt.rcAt_reads ra rb hd.lay he.lay (by omega) _ _ _ _ ⟨.bl _,H,I,rfl,q⟩
theorem vR (hu:X.A.units+64<cLine):cR X (compareOp .NotEq) (fun x y H Q=>∃ d e,Den X.K H x d/\Den X.K H y e/\d.depth<=64/\Q (.bl (!PyData.eqv d e)) H):=by
 intro pins s σ H x y v u Q I rx ry h;obtain ⟨d,e,hd,he,dp,q⟩:=h;obtain ⟨as,ra⟩:=hd.reads I rx;obtain ⟨bs,rb⟩:=he.reads I ry;exact SeqAt.compareNe_reads ra rb hd.lay he.lay (by omega) ⟨.bl _,H,I,rfl,q⟩
end
theorem Wk {α:Type} {l:List α} {i:Nat} {x:α} (h:l[i]?=some x):l.take (i+1)=l.take i++[x]:=by
 obtain ⟨hi,hc⟩:=List.getElem?_eq_some_iff.mp h;rw [List.take_succ_eq_append_getElem hi,hc]
theorem vU {J:It} {P:Hp->Prop} {xs:List V} (hJ:Ws J P xs) {src:List (Option Nat)} {te:TE} {σ:St} {H1:Hp} {Q:VK} {D:Addr} (ys:List V) (hP:∀ H',Same H1 H'->P H') (hD:H1 D=none) (hl:ys.length=xs.length) (hlen:xs.length<=100000)
  (step:∀ (i:Nat) x y H',xs[i]?=some x->ys[i]?=some y->Same H1 H'->∀ R:VK,(∀ aL,Same H' aL->R y aL)->te (some x::YV src σ) H' R)
  (fin:∀ H',Same H1 H'->H' D=some (.lst ys)->Q (.ref D) H'):LC (none::src) J (YD 0) WJ te σ H1 Q D:=by
 have h6:100000<sizeLine:=by decide
 refine UW hJ (fun i zs σ' H'=>zs=ys.take i/\(∃ o,σ'=o::YV src σ)/\Same H1 H'/\H' D=some (.lst zs)) ⟨by simp,⟨none,rfl⟩,.ao hD _,Yf⟩ (fun i zs σ' H' p=>⟨hP _ p.2.2.1,p.2.2.2⟩) (Vb 0) ?_ ?_
 ·rintro i zs σ' H' x hx ⟨rfl,⟨o,rfl⟩,sm,hd⟩
  have hi:=(List.getElem?_eq_some_iff.mp hx).1;have hy:ys[i]?=some (ys[i]'(by omega)):=List.getElem?_eq_getElem _
  show te (some x::YV src σ) H' _
  refine step i x _ H' hx hy sm _ fun aL s2=>⟨s2 _ _ hd,?_,(Wk hy).symm,⟨_,rfl⟩,.cu hD (sm.trans s2) _,Yf⟩
  rw [List.length_take];omega
 ·rintro zs σ' H' ⟨rfl,_,sm,hd⟩
  rw [<- hl,List.take_length] at hd
  exact fin H' sm hd
theorem Qg (K:W.Frag) (i j:Nat):∀ x σ H Q Q',(∀ σ' H',Q σ' H'->Q' σ' H')->Wp K 2 (Y5 (YD i) (Y5 (YD j) Wo)) x σ H Q->Wp K 2 (Y5 (YD i) (Y5 (YD j) Wo)) x σ H Q':=by
 rintro x σ H Q Q' h ⟨a,xs,e,sq,l,v,r,e1,v2,r2,e2,e3,q⟩;exact ⟨a,xs,e,sq,l,v,r,e1,v2,r2,e2,e3,h _ _ q⟩
end L2
namespace L2
open PySem PySem.Spec PyProof.Rows
section
variable {a b c d e r:TS} {D:Ends} {σ:St} {H:Hp} (M:St->Hp->Prop) (h1:∀ σ H,M σ H->r D σ H)
include h1
theorem Xq (h2:∀ N:St->Hp->Prop,(∀ σ H,M σ H->N σ H)->a { D with nx:=N } σ H):X0 a r D σ H:=h2 (r D) h1
theorem Uw (h2:∀ N:St->Hp->Prop,(∀ σ H,M σ H->N σ H)->X0 a b { D with nx:=N } σ H):X0 a (X0 b r) D σ H:=h2 (r D) h1
theorem vV (h2:∀ N:St->Hp->Prop,(∀ σ H,M σ H->N σ H)->X0 a (X0 b c) { D with nx:=N } σ H):X0 a (X0 b (X0 c r)) D σ H:=h2 (r D) h1
end
theorem Yg4 (i j:Int):rN (.int i) (.int j)=true:=rfl
theorem Wl (i j:Str):rN (.str i) (.str j)=true:=rfl
theorem YfF {α:Type} (xs:List α) (i j:Nat):(xs.drop (min i xs.length)).take (min j xs.length - min i xs.length)=(xs.drop i).take (j - i):=by
 by_cases hi:i<=xs.length
 ·rw [Nat.min_eq_left hi]
  by_cases hj:j<=xs.length
  ·rw [Nat.min_eq_left hj]
  ·rw [Nat.min_eq_right (by omega),List.take_of_length_le (by rw [List.length_drop];omega),List.take_of_length_le (by rw [List.length_drop];omega)]
 ·rw [List.drop_of_length_le (by omega),List.drop_of_length_le (show xs.length<=i by omega)]
  simp
theorem Yg5 (xs:List V) (j:Nat):WI xs none (some (j:Int))=xs.take j:=by
 unfold WI;rw [HT.iR,HT.jC,List.drop_zero,Nat.sub_zero];have:=YfF xs 0 j;simpa using this
theorem Yg6 (xs:List V) (i:Nat):WI xs (some (i:Int)) none=xs.drop i:=by
 unfold WI;rw [HT.iR,HT.jC];by_cases hi:i<=xs.length
 ·rw [Nat.min_eq_left hi,List.take_of_length_le (by rw [List.length_drop];omega)]
 ·rw [List.drop_of_length_le (by omega),List.drop_of_length_le (show xs.length<=i by omega)]
  simp
section
variable {src:List (Option Nat)} {te:TE} {σ:St} {H:Hp} {Q:VK}
theorem Wt {ta:TA} {n:Nat} (ys:List V) (ha:∀ R:List V->Hp->Prop,R [.int n] H->ta σ H R) (hl:ys.length=n) (hlen:n<=100000)
  (step:∀ (i:Nat) y H',i<n->ys[i]?=some y->Same H H'->∀ R:VK,(∀ aL,Same H' aL->R y aL)->te (some (.int i)::YV src σ) H' R)
  (fin:∀ D H',H D=none->Same H H'->H' D=some (.lst ys)->Q (.ref D) H'):iT (none::src) (rK ta) (YD 0) WJ te σ H Q:=by
 refine ha _ ⟨n,rfl,by omega,by omega,fun D hD=>?_⟩;refine vU (Qf (lo:=0) (n:=n) (P:=fun _=>True)) ys (fun _ _=>trivial) hD (by simpa using hl) (by simpa using hlen) (fun i x y H' hx hy sm R r=>?_) fun H'=>fin D H' hD
 have hi:i<n:=by have:=(List.getElem?_eq_some_iff.mp hx).1;simpa using this
 rw [List.getElem?_map,List.getElem?_range hi] at hx
 have e:V.int (0+(i:Int))=x:=Option.some.inj hx;rw [Int.zero_add] at e
 subst e;exact step i y H' hi hy sm R r
end
section
variable {X:Cx} {K:W.Frag}
theorem WL (h:X.K=K:=by rfl):o9 X (qH K):=by subst h;exact Xg
end
section
variable {X:Cx} {e st:Expr} {te ts:TE} {pos p2:Pos}
def Ou (K:W.Frag) (te ts:TE):TE:=fun σ H Q=>te σ H fun x H1=>ts σ H1 fun y H2=>y = .int (-1)/\∃ a xs,x = .ref a/\au K H2 a xs/\∀ p,H2 p=none->Q (.ref p) (upd H2 p (.lst xs.reverse))
end
section
variable {X:Cx} {pos:Pos}
def Ck:V->List V->Hp->VK->Prop:=fun x vs H Q=>∃ i,x = .int i/\vs=[]/\Q (.int (Builtin.Int.intBits i:Nat)) H
def Cm:V->List V->Hp->VK->Prop:=fun x vs H Q=>∃ (z y:Str),x = .str z/\vs=[.str y]/\Q (.int (Txt.find z y)) H
theorem Inv.qI {pins:List (Addr×Obj)} {σ:St} {H:Hp} {s:Shared} (I:Inv X pins σ H s):sysModules<s.heap.objs.size:=by
 have h:mainGlobals<s.heap.objs.size:=(I.mod.glob.keeps I.bk).lt;exact Nat.lt_trans (by decide) h
theorem Yg7 {P:Program} {w:World} {H:Hp} (h:Heap) (hb:sysModules<h.objs.size):YS P w H (h.push { cls := .type "dict",data := .dict #[] }) h.objs.size (.dK []) :=
 ⟨Nat.zero_le _,beq_eq_false_iff_ne.mpr (Ne.symm (Nat.ne_of_lt hb)),[],.nil,Heap.DictOf.new h⟩
def Gj:TE:=fun _ H Q=>∀ p,H p=none->Q (.ref p) (upd H p (.dK []))
theorem YfG:PE X (.Dict [] [] pos) Gj:=fun pins s σ H Q I h =>
 wpAny_Dict_empty ⟨.ref s.heap.objs.size,_,I.laid (a:=s.heap.objs.size) (o := .dK []) (t':=s.toks) (fun _ _ q=>Heap.get?_push_of_some _ q) (Nat.le_refl _) (Yg7 s.heap I.qI),rfl,h _ (I.hok.fresh (Nat.le_refl _))⟩
end
def Gx.lJ (g:Gx) (x:Str) (xs:List V):Prop:=∃ c,g.mg x=some (.ref c)/\∀ H,aD g.K H c xs
theorem Yg8 {K:W.Frag} {h:Heap} {mg:Str->Option Value} {x:Str} {i:Addr} {dc:Option Addr} {its:Array Value} {n:Nat} {sl:Array (Option Value)} {xs:List V} (X:K.In h) (G:h.Ns mainGlobals mg)
  (a:W.nsIn K mainGlobals x=some (some (.ref i))) (l:K.lookup i=some ⟨.type "tuple",dc,.seq its n,sl⟩) (hz:its.size<=sizeLine) (r:Yu xs its.toList):∀ P w base,(Gx.mk P w K mg base).lJ x xs :=
 fun P w base=>⟨i,W.mg_of X G a,fun H => .inr ⟨_,its,n,l,rfl,rfl,hz,r⟩⟩
section
variable {X:Cx} {g:Gx} {x:Str} {pos:Pos}
def Gk (K:W.Frag) (xs:List V):TE:=fun _ H Q=>∀ c,aD K H c xs->Q (.ref c) H
theorem Gm {xs:List V} (F:g.lJ x xs) (hX:X.gx=g:=by rfl) (hg:Gl X x:=by rfl) (hd:(x==("__debug__":Str))=false:=by decide):PE X (.Name x pos) (Gk g.K xs):=by
 subst hX;obtain ⟨c,e,hc⟩:=F;exact fun pins s σ H Q I h=>QW hg e (show YC (.ref c) (.ref c) from rfl) hd pins s σ H Q I (h c (hc H))
end
theorem Xc {c A B:Prop} [Decidable c] (h:¬ c) (hb:B):if c then A else B:=by rw [if_neg h];exact hb
theorem Xu {c A B:Prop} [Decidable c] (h:c) (ha:A):if c then A else B:=by rw [if_pos h];exact ha
section
variable {src:List (Option Nat)} {te:TE} {σ:St} {H:Hp} {Q:VK}
theorem Gn {tl:TE} {l:List Nat} (ys:List V) (ha:∀ R:V->Hp->Prop,R (.str (S l)) H->tl σ H R) (hl:ys.length=l.length) (hlen:l.length<=100000)
  (step:∀ (i c:Nat) y H',l[i]?=some c->ys[i]?=some y->Same H H'->∀ R:VK,(∀ aL,Same H' aL->R y aL)->te (some (.str (S [c]))::YV src σ) H' R)
  (fin:∀ D H',H D=none->Same H H'->H' D=some (.lst ys)->Q (.ref D) H'):iT (none::src) (vP tl) (YD 0) WJ te σ H Q :=
 ha _ ⟨S l,rfl,fun D hD=>vU (FQ (S l) (fun _=>True)) ys (fun _ _=>trivial) hD (by rw [YZ];simpa using hl) (by rw [YZ];simpa using hlen) (fun i x y H' hx hy sm R r=>by
  rw [YZ,List.getElem?_map] at hx
  cases e:l[i]? with
  | none=>rw [e] at hx;cases hx
  | some c =>
   rw [e] at hx
   have:V.str ⟨#[c]⟩=x:=Option.some.inj hx;subst this;exact step i c y H' e hy sm R r) fun H'=>fin D H' hD⟩
end
section
variable {X:Cx}
def tLZ (K:W.Frag) (ta:TA):TE:=fun σ H Q=>ta σ H fun vs H1=>∃ a b xs ys,vs=[.ref a,.ref b]/\aD K H1 a xs/\aD K H1 b ys/\xs.length=ys.length /\
 ∀ (l:Addr) (as:List Addr) (H2:Hp),H1 l=none->Same H1 H2->H2 l=some (.lst (as.map V.ref))->as.length=xs.length ->
  (∀ (j:Nat) a x y,as[j]?=some a->xs[j]?=some x->ys[j]?=some y->H1 a=none/\H2 a=some (.tup [x,y]))->Q (.ref l) H2
theorem Gp {i:Nat} {x:Str} {pos':Pos} {pins:List (Addr×Obj)} {σ:St} {D0:Ends} (hN:X.N.Nodup) (hix:X.N[i]?=some x) (hlx:Loc X.env.scope x) (hf:X.fn x=true\/X.env.scope.names.lookup x=some .local) (D C:Addr) (s6:Shared) (H5:Hp)
  (fi:∀ h',Heap.SameBut C s6.heap h'->Inv X pins σ H5 { s6 with heap:=h' }) (hn:∃ m,s6.heap.Ns C m) (pC:H5 C=none) (hC:∀ {H':Hp},H' C=none->W3 X pins H' C) (qn:D0.nx (σ.set i (some (.ref D))) H5) :
  compPost (model X.prog X.w) X.A X.xe (some fun v=>assignAll v ((assignEach [.Name x pos'] X.env).map (·.2))) (fun _ s'=>wpAny (model X.prog X.w) X.A (pure PUnit.unit) (fun _ s'=>wpAny (model X.prog X.w) X.A (pure Flow.next) (SP X pins D0) X.xe s') X.xe s') (.ref D) C (.ok .next) s6:=by
 obtain ⟨m,oC,es,ep,hoC,rC⟩:=hn;have IO:Inv X pins σ H5 s6:=fi s6.heap (Heap.SameBut.refl _ _);have IP:=IO.pinned (fp:=[C]) (fun b hb=>by rw [List.mem_singleton.mp hb];exact hC pC) (fun b hb=>by rw [List.mem_singleton.mp hb];exact ⟨oC,hoC,fun v z=>by (rw [rC.1] at z;cases z)⟩)
 show wpAny _ _ (assign (.Name x pos') X.env (.ref D)) _ _ _
 refine aB (Yv hN hix hlx hf _ s6 σ H5 (.ref D) (.ref D) _ IP rfl qn) fun _ s7 ⟨iQ,H7,I7,q7⟩=>?_
 obtain ⟨g1,g2,_⟩:=I7.pin (C,oC) (List.mem_append_right _ (List.mem_append_right _ (Wq (List.mem_singleton.mpr rfl) hoC)));refine ⟨m,⟨oC,es,ep,g1,rC⟩,fun h' sb=>wpAny_pure (wpAny_pure ⟨iQ,H7,?_,q7⟩)⟩;exact I7.gZ.uq (t':=s7.toks) (ch:=[C]) (fun b o hb e=>sb.extBut b o (fun z=>hb (by rw [z];exact List.mem_singleton.mpr rfl)) e) (fun b hb=>by rw [List.mem_singleton.mp hb];exact hC g2)
theorem Gq {i:Nat} {x:Str} {pos' apos:Pos} {elt tg iter:Expr} {ifs:List Expr} {scope:Scope} {pos:Pos} {src:List (Option Nat)} {N':List Str} {wi:TI} {g:TG} {tt:TT} {te:TE} (hN:X.N.Nodup) (hix:X.N[i]?=some x) (hlx:Loc X.env.scope x) (hcap:iu X scope src N') (hc:X.calm=true) (hi:PI X tg iter wi)
  (hg:∀ cl C s₀ H₀ fp pn,PG (cP X scope N' cl C s₀ H₀ fp pn) tg g) (ht:∀ cl C s₀ H₀ fp pn,lF (cP X scope N' cl C s₀ H₀ fp pn) ifs tt) (he:∀ cl C s₀ H₀ fp pn,PE (cP X scope N' cl C s₀ H₀ fp pn) elt te)
  (hfree:∀ x,(x,NameKind.free)∈scope.names->X.env.scope.names.lookup x=some NameKind.cell\/X.env.scope.names.lookup x=some NameKind.free)
  (hk:scope.kind = .function:=by rfl) (hcell:∀ y∈scope.names,y.2 ≠ .cell:=by decide) (hnames:∀ y∈scope.names,y.2 = .local->scope.names.lookup y.1=some .local:=by decide +kernel)
  (hs:∀ x,foldedSetIterable iter X.env x=pure x:=by intro _;rfl) (hsw:swapsWithSole [.Name x pos'] (.ListComp elt [⟨tg,iter,ifs,0⟩] scope pos) apos.line X.env=pure true:=by rfl) (hf:X.fn x=true\/X.env.scope.names.lookup x=some .local:=by first | exact .inl rfl | exact .inr rfl | assumption) :
  PS X (.Assign [.Name x pos'] (.ListComp elt [⟨tg,iter,ifs,0⟩] scope pos) apos) (oX (iT src wi g tt te) (YD i)):=by
 intro pins s σ H D0 I h;obtain ⟨cl,hcl,a,b⟩:=W9 X.env scope fun x hx=>I.ok.has x (hfree x hx)
 rw [exec_Assign_arm];refine wpAny_bind (wpAny_standAt ?_);rw [hsw];refine wpAny_bind (wpAny_pure ?_);rw [if_pos rfl];refine wpAny_bind ?_;rw [arm_evalThenUse_ListComp];refine wpAny_bind ?_;refine wpAny_comprehension_free (use:=some _) rfl hs hcl hk hnames (aB (hi pins s σ H _ I h) fun v s1 h1=>aB h1 fun itv s2 h2=>?_);exact V5 (Po:=fun v C=>compPost (model X.prog X.w) X.A X.xe (some fun v=>assignAll v ((assignEach [.Name x pos'] X.env).map (·.2))) (fun _ s'=>wpAny (model X.prog X.w) X.A (pure PUnit.unit) (fun _ s'=>wpAny (model X.prog X.w) X.A (pure Flow.next) (SP X pins D0) X.xe s') X.xe s') v C) (Z:=fun _ _ _ _ _ _ _=>False) hcap hc (hg cl) (ht cl) (he cl) hk hcell a b h2 (Gp hN hix hlx hf) fun _ _ _ _ _ _ _ _ z=>z.elim
end
def YI {α:Type}:Sem α->Prop
 | .pure _=>True
 | .raise _=>True
 | .unsupported _=>True
 | .rule _ k=>YI (k ())
 | .at _ k=>YI (k ())
 | .load _ _ k=>∀ o,YI (k o)
 | .update _ _ f k=>(∀ o:Obj,(f o).dict=o.dict/\(f o).isFreed=o.isFreed)/\YI (k ())
 | .alloc _ k=>∀ a,YI (k a)
 | .stack k=>∀ x,YI (k x)
 | _=>False
def Xf (h:Heap) (e:Addr) (dc:Option Addr):Prop:=∃ o,h.get? e=some o/\o.dict=dc
theorem YeG {α β:Type} {f:α->Sem β} (m:Sem α):YI m->(∀ a,YI (f a))->YI (m.bind f):=by
 induction m with
 | pure a=>intro _ hf;exact hf a
 | raise e=>intro _ _;simp only [Sem.bind,YI]
 | unsupported e=>intro _ _;simp only [Sem.bind,YI]
 | rule n k ih=>intro h hf;simp only [YI] at h;simp only [Sem.bind,YI];exact ih () h hf
 | «at» n k ih=>intro h hf;simp only [YI] at h;simp only [Sem.bind,YI];exact ih () h hf
 | load a b k ih=>intro h hf;simp only [YI] at h;simp only [Sem.bind,YI];exact fun o=>ih o (h o) hf
 | update a b g k ih=>intro h hf;simp only [YI] at h;simp only [Sem.bind,YI];exact ⟨h.1,ih () h.2 hf⟩
 | alloc a k ih=>intro h hf;simp only [YI] at h;simp only [Sem.bind,YI];exact fun o=>ih o (h o) hf
 | stack k ih=>intro h hf;simp only [YI] at h;simp only [Sem.bind,YI];exact fun o=>ih o (h o) hf
 | _=>intro h;simp only [YI] at h
theorem Yg9 {M:Model} {Γ:PySem.Ctx} {α:Type} {Q:α->Pos->Shared->Prop} {E:Value->Pos->Shared->Prop} {e:Addr} {dc:Option Addr} (t:Sem α):YI t->∀ (p:Pos) (s:Shared),Sem.wp M Γ t Q E p s->Xf s.heap e dc->Sem.wp M Γ t (fun a p s'=>Q a p s'/\Xf s'.heap e dc) (fun v p s'=>E v p s'/\Xf s'.heap e dc) p s:=by
 induction t with
 | pure a=>intro _ p s h d;simp only [Sem.wp] at h ⊢;exact ⟨h,d⟩
 | raise a=>intro _ p s h d;simp only [Sem.wp] at h ⊢;exact ⟨h,d⟩
 | unsupported a=>intro _ p s h d;simp only [Sem.wp] at h
 | rule n k ih=>intro t p s h d;simp only [YI] at t;simp only [Sem.wp] at h ⊢;exact ih () t p s h d
 | «at» n k ih=>intro t p s h d;simp only [YI] at t;simp only [Sem.wp] at h ⊢;exact ih () t n s h d
 | load a b k ih=>intro t p s h d;simp only [YI] at t;simp only [Sem.wp] at h ⊢;obtain ⟨o,h1,h2⟩:=h;exact ⟨o,h1,ih o (t o) p s h2 d⟩
 | update a b f k ih =>
  intro t p s h d;simp only [YI] at t;simp only [Sem.wp] at h ⊢;obtain ⟨o,d1,d2⟩:=d;refine ⟨h.1,ih () t.2 p _ h.2 ?_⟩;by_cases c:a=e
  ·subst c
   exact ⟨f o,Heap.get?_update_self f d1 (by rw [(t.1 o).2];exact (Heap.get?_some_iff.mp d1).2),by rw [(t.1 o).1];exact d2⟩
  ·exact ⟨o,(Heap.get?_update_other _ _ c).trans d1,d2⟩
 | alloc a k ih=>intro t p s h d;simp only [YI] at t;simp only [Sem.wp] at h ⊢;obtain ⟨o1,d1,d2⟩:=d;exact ih _ (t _) p _ h ⟨o1,Heap.get?_push_of_some _ d1,d2⟩
 | stack k ih=>intro t p s h d;simp only [YI] at t;simp only [Sem.wp] at h ⊢;exact ih _ (t _) p s h d
 | _=>intro t;simp only [YI] at t
theorem XR {M:Model} {A:Around} {α:Type} {t:Sem α} {Q:α->Shared->Prop} {E:Value->Shared->Prop} {s:Shared} {e:Addr} {dc:Option Addr} (T:YI t) (d:Xf s.heap e dc) (h:wpAny M A t Q E s):wpAny M A t (fun a s'=>Q a s'/\Xf s'.heap e dc) (fun v s'=>E v s'/\Xf s'.heap e dc) s :=
 fun Γ p hΓ=>Yg9 t T p s (h Γ p hΓ) d
theorem YT {α β:Type} {m:Sem α} {f:α->Sem β} (h:YI m) (hf:∀ a,YI (f a)):YI (m >>= f):=YeG m h hf
theorem VT {α:Type} (a:α):YI (pure a:Sem α):=trivial
theorem YhW {α:Type} (x:String):YI (unsupported x:Sem α):=trivial
theorem YdL:YI stack:=fun _=>trivial
theorem YfH (a:Addr) (f:Obj->Obj) (h:∀ o:Obj,(f o).dict=o.dict/\(f o).isFreed=o.isFreed):YI (update a f):=⟨h,trivial⟩
theorem YaR (v:Value):YI (fieldsOf v):=by
 unfold fieldsOf
 cases v<;>first | trivial | skip
 refine YT (fun o=>trivial) fun o=>?_
 cases o.data<;>trivial
theorem Vd (v:Value) (i:Nat):YI (field v i):=by
 unfold field;refine YT (YaR v) fun vs=>?_
 cases vs[i]?<;>trivial
theorem Ov (f:Array Value->Array Value) (o:Obj):(Obj.mapFields f o).dict=o.dict/\(Obj.mapFields f o).isFreed=o.isFreed:=by
 obtain ⟨c,d,dt,sl⟩:=o
 cases dt<;>exact ⟨rfl,rfl⟩
theorem Qm (a:Addr) (i:Nat) (v:Value):YI (updateField a i v):=by
 unfold updateField;refine YT (fun o=>trivial) fun o=>?_
 cases o.data with
 | fields vs =>
  dsimp only
  split
  ·exact ⟨Ov _,trivial⟩
  ·trivial
 | _=>trivial
theorem Wd (v:Value) (i:Nat) (x:Value):YI (setField v i x):=by
 unfold setField
 cases v<;>first | trivial | exact Qm _ _ _
theorem X7 (v:Value) (f:Option Addr):YI (setFlight v f):=by
 unfold setFlight;refine YT (Vd _ _) fun tb=>?_
 split
 ·exact Wd _ _ _
 ·trivial
theorem YaS (env:Env) (b:Bool) (l:List Env):YI (keptBack env b l):=by
 cases l with
 | nil =>
  rw [keptBack];by_cases c:(env.scope.isGenerator||env.scope.isCoroutine)=true
  ·rw [if_pos c];exact VT _
  ·rw [if_neg c]
   refine YT ?_ fun x=>VT _
   unfold underTheClaimsCaller;exact YT YdL fun x=>VT _
 | cons x r=>rw [keptBack];exact VT _
theorem QE:∀ l:List Env,YI (readyFrames l)
 | []=>trivial
 | env::outer=>by
  unfold readyFrames
  cases env.frame with
  | none=>trivial
  | some f =>
   dsimp only;refine YT (fun o=>trivial) fun o=>?_
   split
   ·trivial
   ·refine YT ?_ fun b=>YT (YaS _ _ _) fun k=>YT (YfH _ _ fun o=>by obtain ⟨c,d,dt,sl⟩:=o;cases dt<;>exact ⟨rfl,rfl⟩) fun _=>QE outer
    unfold behindIsImport
    split
    ·trivial
    ·split
     ·trivial
     ·exact YT (Vd _ _) fun x=>trivial
theorem Ux (env:Env):YI (PySem.frameOf env):=by
 unfold PySem.frameOf frameEnvs;refine YT (YT (fun x=>trivial) fun x=>trivial) fun l=>?_
 generalize l.dropWhile _=l';refine YT ?_ fun r=>?_
 ·cases l' with
  | nil=>trivial
  | cons x r =>
   unfold frameObject;exact YT (QE _) fun _=>trivial
 ·cases r<;>trivial
theorem Q3 (ty:String) (vs:List Value):YI (newFields ty vs):=by
 unfold newFields newObj;dsimp only
 split
 ·exact YT (YhW _) fun _=>YT (fun _=>trivial) fun _=>VT _
 ·exact YT (m:=alloc _) (fun _=>trivial) fun _=>VT _
theorem Uj (a b c d e:Value) (pl:List Value):YI (EntryCells.newEntry a b c d e pl):=Q3 _ _
theorem QF (f:Addr) (b:Bool):YI (entryPlaceOf f b):=by
 unfold entryPlaceOf;refine YT (fun x=>trivial) fun l=>?_
 split<;>trivial
theorem WM (e:Value) (env:Env):YI (noteFrame e env):=by
 unfold noteFrame
 cases env.frame with
 | none=>trivial
 | some f =>
  dsimp only;refine YT (Vd _ _) fun hd=>?_
  split
  ·refine YT (Vd _ _) fun x=>?_
   split
   ·trivial
   ·exact YT (Wd _ _ _) fun _=>YT (Ux _) fun _=>YT (QF _ _) fun _=>YT (Uj _ _ _ _ _ _) fun _=>Wd _ _ _
  ·exact YT (Ux _) fun _=>YT (QF _ _) fun _=>YT (Uj _ _ _ _ _ _) fun _=>Wd _ _ _
theorem Wu (env:Env) (e:Value):YI (leaving env e):=by
 unfold leaving;exact YT (WM _ _) fun _=>X7 _ _
structure eG (P:Program) (w:World) (l:List Env) (H:Hp) (h:Heap) (e:Addr) (cls:Value) (H':Hp) (h' B:Heap):Prop where
 fl:∃ a0,Heap.FlyingW B l e cls a0 h'
 hok:cj P w H' B
 keep:∀ b o,h.get? b=some o->H b=none->b∉frs l->B.get? b=some o
 slot:∀ b o,h.get? b=some o->H b=none->b∈frs l->∃ sl,h'.get? b=some { o with slots:=sl }
 al:∀ b o,h.get? b=some o->b∉frs l->∃ o',B.get? b=some o'
 free:∀ b o,h.get? b=some o->H b=none->H' b=none
 tups:∀ b xs,H b=some (.tup xs)->H' b=some (.tup xs)
 dB:∀ b o u,H b=some (.gG o u)->H' b=some (.gG o u)
 dY:∀ b ps,H b=some (.jr ps)->∃ more,H' b=some (.jr (ps++more))
section
variable {P:Program} {w:World} {l:List Env} {H H':Hp} {h h' h'' B:Heap} {e:Addr} {cls:Value}
theorem eG.un (F:eG P w l H h e cls H' h' B) (hf:∀ b∈frs l,H b=none):Un (frs l) [] H H' h h':=by
 obtain ⟨a0,fl⟩:=F.fl;refine ⟨fun b o q n hb _=>fl.1 b o (F.keep b o q n hb),fun b o q n hb _=>F.slot b o q n hb,fun b o q n _=>F.free b o q n,fun b o q _=>?_,F.tups,F.dB,F.dY⟩;by_cases hb:b∈frs l
 ·obtain ⟨sl,z⟩:=F.slot b o q (hf b hb) hb
  exact ⟨_,z⟩
 ·obtain ⟨o',z⟩:=F.al b o q hb
  exact ⟨o',fl.1 b o' z⟩
theorem eG.held (F:eG P w l H h e cls H' h' B):cj P w H' h':=by
 obtain ⟨a0,fl⟩:=F.fl;exact F.hok.kept fl.1
theorem eG.on (F:eG P w l H h e cls H' h' B) (fl:∃ a0,Heap.FlyingW B l e cls a0 h'') (nf:∀ b∈frs l,∀ o,h.get? b=some o->∀ vs,o.data ≠ .fields vs) (sm:h'.UpToSlots h''):eG P w l H h e cls H' h'' B :=
 ⟨fl,F.hok,F.keep,fun b o q n hb=>by
  obtain ⟨sl,z⟩:=F.slot b o q n hb;obtain ⟨sl',z'⟩:=sm b _ z (nf b hb o q);exact ⟨sl',z'⟩,F.al,F.free,F.tups,F.dB,F.dY⟩
end
section
variable {X:Cx} {pins:List (Addr×Obj)} {σ:St} {H H':Hp} {s s':Shared} {h' B:Heap} {e:Addr} {cls:Value} {M:Model} {A:Around} {Q:Unit->Shared->Prop} {EE:Value->Shared->Prop}
theorem Inv.oA (I:Inv X pins σ H s) {b:Addr} {o:Obj} (q:X.s₀.heap.get? b=some o):b≠X.env.locals:=Nat.ne_of_lt (Nat.lt_of_lt_of_le (Heap.lt_size q) I.ok.above)
theorem Inv.iw (I:Inv X pins σ H s) (hf:X.env.frame=some X.env.locals) {b:Addr} {o:Obj} (q:X.s₀.heap.get? b=some o) (n:b∉X.fs):b∉frs (X.env::X.outer):=fun z=>by
 unfold frs at z;rw [List.filterMap_cons,hf] at z
 rcases List.mem_cons.mp z with z | z
 ·exact I.oA q z
 ·exact n z
theorem Inv.rY (I:Inv X pins σ H s) (hf:X.env.frame=some X.env.locals) {b:Addr} (n:b∈X.fs):b∈frs (X.env::X.outer):=by
 unfold frs;rw [List.filterMap_cons,hf];exact List.mem_cons_of_mem _ n
theorem Inv.oE {vs:List Value} (I:Inv X pins σ H s) (hs:X.stack=X.env::X.outer) (hf:X.env.frame=some X.env.locals) (hex:X.ex=[]) (hA:A.frames=some (X.env::X.outer)) (hm:Heap.MadeExcOf s.heap h' e cls vs)
  (hQ:∀ h'' B,eG X.prog X.w X.outer X.H₀ X.s₀.heap e cls H h'' B->Xf h'' e none->Q () { s with heap:=h'' }):wpAny M A (leaving X.env (.ref e)) Q EE { s with heap:=h' }:=by
 have nx:∀ b:Addr,b∉X.ex:=by
  rw [hex];intro b z
  cases z
 have st:=I.stack;have sf:=I.gY;rw [hs] at st sf
 have hd0:Xf h' e none:=by
  obtain ⟨t,he,_⟩:=hm.there;exact ⟨_,he,rfl⟩
 refine wpAny_mono (XR (Wu _ _) (s:={ s with heap:=h' }) hd0 (wpAny_leaves_madeW (Q:=fun _ s'=>∃ h'',s'={ s with heap:=h'' }/\eG X.prog X.w X.outer X.H₀ X.s₀.heap e cls H h'' (PySem.W.hideAll s.heap (frs (X.env::X.outer)))) (base:=PySem.W.hideAll s.heap (frs (X.env::X.outer))) (h:=s.heap) hA hf (fun b o q=>PySem.W.of_hideAll _ q) (PySem.W.funFrames_hide st fun env he a ha=>List.mem_filterMap.mpr ⟨env,he,ha⟩) hm fun h'' t x1 x2 x3 x4=>⟨h'',rfl,?_⟩)) (fun _ s' z=>by
  obtain ⟨⟨h'',rfl,F⟩,d⟩:=z;exact hQ h'' _ F d) fun _ _ z=>z.1
 refine ⟨⟨_,x1⟩,fun b u q=>?_,fun b o q n nb=>PySem.W.hideAll_get _ (I.base.keep b o q n nb (nx b)) (I.iw hf q nb),fun b o q n hb=>?_,fun b o q nb=>?_,fun b o q n=>I.base.free b o q n (nx b),I.base.tups,I.base.dB,I.base.dY⟩
 ·refine (I.hok b u q).stay (fun c v hc r=>PySem.W.hideAll_get _ r fun z=>?_) (fun _ z=>z) fun _ _ z=>z
  have n:=sf c z;rcases hc with rfl | hc
  ·rw [n] at q;cases q
  ·rw [n] at hc;cases hc
 ·obtain ⟨sl,e1⟩:=I.base.slot b o q n hb (nx b)
  obtain ⟨_,o',e',d⟩:=I.ok.fB.mem hb;rw [q] at e'
  cases e'
  obtain ⟨sl',e2⟩:=x4 b _ (hm.keeps b _ e1) d;exact ⟨sl',e2⟩
 ·obtain ⟨o',e1⟩:=I.base.there b o q (nx b)
  exact ⟨o',PySem.W.hideAll_get _ e1 (I.iw hf q nb)⟩
theorem Inv.qJ (I:Inv X pins σ H s) (hs:X.stack=X.env::X.outer) (hf:X.env.frame=some X.env.locals) (hex:X.ex=[]) (hA:A.frames=some (X.env::X.outer)) (F:eG X.prog X.w X.stack H s.heap e cls H' s'.heap B) {dc:Option Addr} (hd:Xf s'.heap e dc)
  (hQ:∀ h'',eG X.prog X.w X.outer X.H₀ X.s₀.heap e cls H' h'' B->Xf h'' e dc->Q () { s' with heap:=h'' }):wpAny M A (leaving X.env (.ref e)) Q EE s':=by
 have nx:∀ b:Addr,b∉X.ex:=by
  rw [hex];intro b z
  cases z
 rw [hs] at F
 obtain ⟨a0,fl⟩:=F.fl;refine wpAny_mono (XR (Wu _ _) hd (wpAny_leaves_onW (Q:=fun _ s2=>∃ h'',s2={ s' with heap:=h'' }/\eG X.prog X.w X.outer X.H₀ X.s₀.heap e cls H' h'' B) hA hf fl fun h'' x1 x2=>⟨h'',rfl,?_⟩)) (fun _ s2 z=>by
  obtain ⟨⟨h'',rfl,F⟩,d⟩:=z;exact hQ h'' F d) fun _ _ z=>z.1
 refine ⟨⟨_,x1⟩,F.hok,fun b o q n nb=>F.keep b o (I.base.keep b o q n nb (nx b)) (I.base.free b o q n (nx b)) (I.iw hf q nb),fun b o q n hb=>?_,fun b o q nb=>?_,fun b o q n=>?_,fun b xs q=>F.tups b xs (I.base.tups b xs q),fun b o u q=>F.dB b o u (I.base.dB b o u q),fun b ps q=>?_⟩
 ·obtain ⟨sl,e1⟩:=I.base.slot b o q n hb (nx b)
  obtain ⟨vW,e2⟩:=F.slot b _ e1 (I.base.free b o q n (nx b)) (I.rY hf hb);obtain ⟨_,o',e',d⟩:=I.ok.fB.mem hb;rw [q] at e'
  cases e'
  obtain ⟨sl',e3⟩:=x2 b _ e2 d;exact ⟨sl',e3⟩
 ·obtain ⟨o',e1⟩:=I.base.there b o q (nx b)
  exact F.al b o' e1 (I.iw hf q nb)
 ·obtain ⟨o',e1⟩:=I.base.there b o q (nx b)
  exact F.free b o' e1 (I.base.free b o q n (nx b))
 ·obtain ⟨m1,e1⟩:=I.base.dY b ps q
  obtain ⟨m2,e2⟩:=F.dY b _ e1;exact ⟨m1++m2,by rw [e2,Array.append_assoc]⟩
end
def iD (P:Program) (w:World):gP:=fun l H s E e s'=>∃ (a:Addr) (cls:Value) (H':Hp) (B:Heap) (dc:Option Addr),e = .ref a/\s'.os=s.os/\AllBare s'.gens/\eG P w l H s.heap a cls H' s'.heap B/\Xf s'.heap a dc/\E cls dc H'
abbrev Gx.nA (g:Gx) (N:List Str) (qual:Str) (st:Stmt) (f:Addr) (cdv:Value) (A:Around) (outer:List Env) (s:Shared) (H:Hp) (E:XK):Cx:=VJ (iD g.P g.w) g.P g.w g.K g.mg g.base N qual (Yh st) f cdv A outer s H E
section
variable {g:Gx} {N:List Str} {qual:Str} {st:Stmt} {f:Addr} {cdv:Value} {A:Around} {outer:List Env} {s:Shared} {H:Hp} {E:XK}
theorem YO:XL (iD g.P g.w) (g.nA N qual st f cdv A outer s H E) E:=by
 intro pins σ H1 s1 e s' I hq;obtain ⟨a,cls,H',B,dc,he,os,bare,F,hd,q⟩:=hq;subst he;exact I.qJ rfl rfl rfl I.ok.frames F hd fun h'' F' hd'=>⟨a,cls,H',B,dc,rfl,os.trans I.os,bare,F',hd',q⟩
def Gs (X:Cx) (E:XK):Prop:=∀ (pins:List (Addr×Obj)) (σ:St) (H:Hp) (s:Shared) (h':Heap) (e:Addr) (cls:Value) (vs:List Value),Inv X pins σ H s->Heap.MadeExcOf s.heap h' e cls vs->E cls none H->X.xe (.ref e) { s with heap:=h' }
theorem Y0:Gs (g.nA N qual st f cdv A outer s H E) E:=by
 intro pins σ H1 s1 h' e cls vs I hm q;exact I.oE rfl rfl rfl I.ok.frames hm fun h'' B F hd=>⟨e,cls,H1,B,none,rfl,I.os,I.bare,F,hd,q⟩
end
def Gx.aK (g:Gx) (k:Nat) (x:Str) (ps:List Str) (sp:Sp):Prop:=∃ f fd,dZ g.P g.w g.K g.mg g.base (iD g.P g.w) k f fd ps sp/\Xn g.K fd ps []/\W.keepIn g.K (.ref f)=true/\g.mg x=some (.ref f)
def Gu (g:Gx) (k:Nat) (N:List Str) (qual:Str) (st:Stmt) (sp:Sp):Prop:=∀ (f:Addr) (cdv:Value) (A:Around) (outer:List Env) (s:Shared) (H:Hp) (vs:List V) (Q:VK) (E:XK),aR k (g.nA N qual st f cdv A outer s H E).A->sp vs H Q E ->
 ∃ t,gn (g.nA N qual st f cdv A outer s H E) (Xa st) t/\t { nx:=fun _ H'=>Q .non H',rt:=Q } (Wc N vs) H
section
variable {g:Gx} {k:Nat} {x qual m:Str} {st:Stmt} {N ps:List Str} {sp:Sp} {C:Addr}
theorem Gx.Raw.fnX (R:g.Raw x qual st ps) (S:aq N ps (Yh st)) (len:∀ vs H Q E,sp vs H Q E->vs.length=ps.length) (b:Gu g k N qual st sp):g.aK (k+1) x ps sp:=by
 obtain ⟨f,fd,F,bd,hm⟩:=R;refine ⟨f,fd,?_,bd,F.kp,hm⟩;obtain ⟨oc,od,kV,doc,pm,an,cdv,ct,osl,rfl,lk,hcd⟩:=F.ex;exact vh lk hcd S len fun A outer s H vs Q E hr h=>b f cdv A outer s H vs Q E hr h
theorem Gx.aK.mono {j:Nat} (F:g.aK j x ps sp) (h:j<=k):g.aK k x ps sp:=by
 obtain ⟨f,fd,F,r⟩:=F;exact ⟨f,fd,F.mono h,r⟩
theorem Gx.Raw.jm (R:g.Raw x qual st ps) (no:∀ vs H Q E,¬ sp vs H Q E):g.aK k x ps sp:=by
 obtain ⟨f,fd,F,bd,hm⟩:=R;exact ⟨f,fd,⟨fun vs H Q E h=>absurd h (no vs H Q E),fun A outer s H args us vs Q E _ _ _ _ h=>absurd h (no vs H Q E)⟩,bd,F.kp,hm⟩
end
section
variable {g:Gx} {X:Cx} {k j:Nat} {x:Str} {ps:List Str} {sp:Sp} {E:XK} {e:Expr} {es:List Expr} {t:TA} {p pos cpos np:Pos}
theorem YH (F:g.aK j x ps sp) (hr:aR k X.A) (hp:XL (iD g.P g.w) X E) (ha:PA X (e::es) t) (hj:j<=k:=by omega) (hX:X.gx=g:=by rfl) (hg:Gl X x:=by rfl) (hdb:(x==("__debug__":Str))=false:=by decide)
  (he:starEach (e::es) X.env=(false,eval e X.env)::starEach es X.env:=by rfl) (hpl:(backTo pos (starEach es X.env)).any (·.1)=false:=by rfl):PE X (.Call (.Name x p) (e::es) [] pos) (rQ sp [] E t):=by
 subst hX;obtain ⟨f,fd,F,b,kp,hm⟩:=F;exact Ei F (hr.mono hj) hg hm kp b .nil hp ha hdb he hpl
theorem PS.cO {st:Stmt} {t:TS} (h:PS X.cO st t):PS X st t:=fun pins s σ H D I hw =>
 wpAny_mono (h pins s σ H D (I.wish _) hw) (fun _ _ q=>q.eY) fun _ _ z=>False.elim z
abbrev YU:List Value:=[.type "ValueError",.type "Exception",.type "BaseException",.type "object"]
structure Gx.Exc (g:Gx) (x:Str) (C:Addr):Prop where
 bound:g.mg x=some (.ref C)
 own:W.excIn g.K C YU "ValueError.__new__"=true
theorem Yha {K:W.Frag} {h:Heap} {C:Addr} {tl:List Value} {nw:String} (In:K.In h) (q:W.excIn K C tl nw=true) :
  ∃ (bm:List Value) (ns:Addr) (nm qn:Str) (bs:List Value) (hd:Bool) (sn:List Str) (sub:List Value) (ab:Bool) (col:Option Bool) (dd:Option Addr) (k0 k1 k2 k3 k5:Option Value) (mN:Str->Option Value),
   h.get? C=some (excClassObj nm qn C ns bs bm hd sn sub ab col dd k0 k1 k2 k3 k5 nw)/\h.Ns ns mN/\mN "__init__"=none/\OwnTail h tl bm:=by
 unfold W.excIn at q
 split at q
 case h_2=>exact absurd q (by decide)
 case h_1 dd cd sl lk =>
  split at q
  case h_2=>exact absurd q (by decide)
  case h_1 c2 bm k0 k1 k2 k3 n k5 em es =>
   simp only [beq_iff_eq,Bool.and_eq_true,Bool.not_eq_true'] at q;obtain ⟨⟨⟨⟨⟨q1,q2⟩,q3⟩,q4⟩,q5⟩,q6⟩:=q;obtain ⟨nm,bs,mro,ns,qn,hd,sn,sub,ab,col,del⟩:=cd;obtain ⟨lst⟩:=sl;dsimp only at em q3 q5 q6 es;subst q1 q2 em q3 es;exact ⟨bm,ns,nm,qn,bs,hd,sn,sub,ab,col,dd,k0,k1,k2,k3,k5,_,In _ _ lk,.of_isNs (W.isNs_of_in In q5),W.nsMap_none_of_in In q5 q6,W.tail_of_in In q4⟩
def Gv (C:Addr) (E:XK) (t:TA):TS:=fun _ σ H=>t σ H fun vs H1=>vs.length<=sizeLine/\E (.ref C) none H1
theorem YK {C:Addr} (hC:g.Exc x C) (hR:Gs X E) (ha:PA X (e::es) t) (hc:X.calm=true:=by rfl) (hX:X.gx=g:=by rfl) (hg:Gl X x:=by rfl) (hdb:(x==("__debug__":Str))=false:=by decide)
  (he:starEach (e::es) X.env=(false,eval e X.env)::starEach es X.env:=by rfl) (hpl:(backTo cpos (starEach es X.env)).any (·.1)=false:=by rfl) :
  PS X (.Raise (some (.Call (.Name x np) (e::es) [] cpos)) none pos) (Gv C E t):=by
 subst hX;intro pins s σ H D I h;obtain ⟨bm,ns,nm,qn,bs,hd,sn,sub,ab,col,dd,k0,k1,k2,k3,k5,mN,hO,hN,hni,T⟩:=Yha I.mod.j6 hC.own;refine wpAny_Raise_call_subT (C:=C) (nm:=nm) (q:=qn) (N:=ns) (bs:=bs) (bm:=bm) (hdct:=hd) (sn:=sn) (sub:=sub) (ab:=ab) (col:=col) (dd:=dd) (k0:=k0) (k1:=k1) (k2:=k2) (k3:=k3) (k5:=k5)
  F.excBase_ValueError (mN:=mN) (T.hasType F.excBase_ValueError.hasBase) (I.ok.hd hc) ?_ hni (WG I hg hC.bound ⟨rfl,?_⟩ hdb)
 ·rw [he]
  show (false||(backTo cpos (starEach es X.env)).any (·.1))=false
  rw [hpl];rfl
 ·have a1:=ha cpos pins s σ H _ I h
  rw [he] at a1 ⊢
  refine Calls.evalArgs_plain (wpAny_mono a1 (fun us s2 hz=>?_) fun _ _ y=>y);obtain ⟨vs,H2,I2,r,q1,q2⟩:=hz;exact ⟨rfl,by rw [<- r.length];exact q1,I2.bk _ _ hO,hN.keeps I2.bk,T.keeps I2.bk,fun h' e hm=>hR pins σ H2 s2 h' e _ us I2 hm q2⟩
end
abbrev Cx.caught (X:Cx) (e:Addr):Cx:={ X with A:=X.A.mark (some (.ref e)),calm:=false,xe:=fun _ _=>False }
section
variable {X:Cx} {pins:List (Addr×Obj)} {σ:St} {H H' H1:Hp} {s s1 s':Shared} {e:Value} {D:Ends} {ts:TS} {b₀:Stmt} {suite:List Stmt} {c:Str} {cv:Value} {cp hpos:Pos}
theorem Inv.caught (I:Inv X pins σ H s) (a:Addr):Inv (X.caught a) pins σ H s :=
 ⟨⟨I.ok.mod,I.ok.kind,I.ok.glob,I.ok.blt,I.ok.above,I.ok.inj,I.ok.has,I.ok.cab,fun z=>(by cases z),I.ok.frames,I.ok.stk,I.ok.rD,I.ok.bs,I.ok.jf,I.ok.jz,I.ok.jU,I.ok.fB,I.ok.jF⟩,I.os,I.bare,I.base,I.loc,I.cell,I.free,I.fP,I.pin,I.hok,I.len⟩
theorem Inv.uncaught {a:Addr} (hd:X.calm=true->X.A.handled=none) (I:Inv (X.caught a) pins σ H s):Inv X pins σ H s :=
 ⟨⟨I.ok.mod,I.ok.kind,I.ok.glob,I.ok.blt,I.ok.above,I.ok.inj,I.ok.has,I.ok.cab,hd,I.ok.frames,I.ok.stk,I.ok.rD,I.ok.bs,I.ok.jf,I.ok.jz,I.ok.jU,I.ok.fB,I.ok.jF⟩,I.os,I.bare,I.base,I.loc,I.cell,I.free,I.fP,I.pin,I.hok,I.len⟩
theorem Inv.seen {a:Addr} {cls:Value} {B:Heap} (I:Inv X pins σ H1 s1) (F:eG X.prog X.w X.stack H1 s1.heap a cls H' s'.heap B) (os:s'.os=s1.os) (bare:AllBare s'.gens):Inv X pins σ H' s' :=
 I.call' (ch:=[]) os (F.un I.gY) F.held bare fun b z=>nomatch z
theorem Inv.ur (I:Inv X pins σ H1 s1):∀ b∈frs X.stack,∀ o,s1.heap.get? b=some o->∀ vs,o.data ≠ .fields vs:=fun b hb o q=>by
 obtain ⟨_,o',e',d⟩:=I.stack.mem hb;rw [q] at e'
 cases e'
 exact d
end
def Ow (K:W.Frag) (cv:Value) (sp:Sp) (t:TA) (i:Nat) (ts:TS):TS:=fun D σ H=>t σ H fun vs H1=>sp (vs++[]) H1 (fun v H2=>D.nx (σ.set i (some v)) H2) (fun cls _ H2=>W.exmOne K cls cv=some true/\ts D σ H2)
def Wv (a:Addr) (cls:Value) (dc:Option Addr):HO := .ext fun h=>∃ o vs,h.get? a=some o/\o.cls=cls/\o.data = .fields vs/\o.dict=dc
section
variable {P:Program} {w:World} {l:List Env} {H H':Hp} {h h' h'' B:Heap} {a e:Addr} {cls:Value} {o:HO}
theorem YS.alive (x:YS P w H h a o):∃ u,h.get? a=some u:=by
 cases o with
 | lst xs=>obtain ⟨_,_,_,_,e⟩:=x;exact ⟨_,e⟩
 | tup xs=>obtain ⟨_,_,_,u,e,_⟩:=x;exact ⟨_,e⟩
 | dK kvs=>obtain ⟨_,_,_,_,o,_,_,e,_⟩:=x;exact ⟨_,e⟩
 | dT kvs=>obtain ⟨_,_,_,_,o,_,_,e,_⟩:=x;exact ⟨_,e⟩
 | set S n=>obtain ⟨o,_,_,_,e,_⟩:=x;exact ⟨_,e⟩
 | ins C dx fs=>obtain ⟨_,_,_,e,_⟩:=x;exact ⟨_,e⟩
 | own y=>exact x
 | xd fs=>obtain ⟨_,⟨_,_,_,e,_⟩,_⟩:=x;exact ⟨_,e⟩
 | rng lo hi=>obtain ⟨_,_,_,e⟩:=x;exact ⟨_,e⟩
 | gG ob u=>obtain ⟨e,_⟩:=x;exact ⟨_,e⟩
 | jr ps=>exact ⟨_,(show h.get? a=some _ from x)⟩
 | met f y=>exact ⟨_,(show h.get? a=some _ from x)⟩
 | ext φ=>exact x.2.1
theorem eG.new (F:eG P w l H h e cls H' h' B) (hf:∀ b∈frs l,H b=none) (nf:∀ b∈frs l,∀ o,h.get? b=some o->∀ vs,o.data ≠ .fields vs):h.get? e=none:=by
 obtain ⟨a0,fl⟩:=F.fl
 cases q:h.get? e with
 | none=>rfl
 | some o =>
  by_cases hb:e∈frs l
  ·obtain ⟨sl,z⟩:=F.slot e o q (hf e hb) hb
   obtain ⟨oe,vs,z',_,d,_⟩:=fl.first;rw [z] at z'
   cases z'
   exact absurd d (nf e hb o q vs)
  ·obtain ⟨o',z⟩:=F.al e o q hb
   rw [fl.2.1] at z
   cases z
theorem eG.out (F:eG P w l H h e cls H' h' B):H' e=none:=by
 obtain ⟨a0,fl⟩:=F.fl
 cases q:H' e with
 | none=>rfl
 | some u =>
  obtain ⟨o,z⟩:=(F.hok e u q).alive;rw [fl.2.1] at z
  cases z
theorem eG.track (F:eG P w l H h e cls H' h' B) (hf:∀ b∈frs l,H b=none) (nf:∀ b∈frs l,∀ o,h.get? b=some o->∀ vs,o.data ≠ .fields vs) {dc:Option Addr} (hd:Xf h' e dc) :
  Un (frs l) [] H (upd H' e (Wv e cls dc)) h h'/\cj P w (upd H' e (Wv e cls dc)) h':=by
 have n1:=F.new hf nf;have n2:=F.out;have u:=F.un hf;have ok:=F.held;obtain ⟨a0,fl⟩:=F.fl;refine ⟨⟨u.keep,u.slot,fun b o q n hx=>?_,u.there,fun b xs q=>?_,fun b o x q=>?_,fun b ps q=>?_⟩,fun b x q=>?_⟩
 ·rw [Yq (fun z=>by rw [z,n1] at q;cases q)]
  exact u.free b o q n hx
 ·rw [Yq (YF (u.tups b xs q) n2)]
  exact u.tups b xs q
 ·rw [Yq (YF (u.dB b o x q) n2)]
  exact u.dB b o x q
 ·obtain ⟨m,z⟩:=u.dY b ps q
  exact ⟨m,by rw [Yq (YF z n2)];exact z⟩
 ·by_cases hb:b=e
  ·subst hb
   rw [Yf] at q
   cases q
   obtain ⟨oe,vs,z1,z2,z3,_⟩:=fl.first;obtain ⟨od,d1,d2⟩:=hd;rw [z1] at d1
   cases d1
   exact ⟨⟨oe,vs,z1,z2,z3,d2⟩,⟨oe,z1⟩,fun h1 h2 p k=>by obtain ⟨o,vs,y1,y2,y3⟩:=p;exact ⟨o,vs,k o y1,y2,y3⟩⟩
  ·rw [Yq hb] at q
   exact (ok b x q).stay (fun c v _ r=>r) (fun c r=>by rw [Yq (YF r n2)];exact r) fun c xs r=>by rw [Yq (YF r n2)];exact r
end
section
variable {X:Cx} {pins:List (Addr×Obj)} {σ:St} {H H' H1:Hp} {s s1 s':Shared}
theorem Yhb {M:Model} {A:Around} {E:Value->Shared->Prop} {j:Nat} {n:Str} {pos:Pos} {Q:Unit->Shared->Prop} (I:Inv X pins σ H s) (hN:X.N.Nodup) (hj:X.N[j]?=some n) (hk:X.env.scope.names.lookup n=some .local)
  (h:∀ s',Inv X pins (σ.set j none) H s'->Q () s'):wpAny M A (do bindName X.env n .none;unbindBehindTheSuite X.env n pos) Q E s:=by
 obtain ⟨m,hn,hl⟩:=id I.loc;have hcls:(X.env.scope.kind == .class||(X.env.scope.kind == .module&&X.env.locals != X.env.globals))=false:=by rw [I.ok.kind];rfl
 have jg:=I.jg;have tracked:∀ {a:Addr} {h':Heap},(∃ o,s.heap.get? a=some o/\H a=none)->Heap.SameBut a s.heap h'->cj X.prog X.w H h':=fun {a h'} ha hs b ob e=>by
  obtain ⟨_,_,hfree⟩:=ha;refine (I.hok b ob e).stay (fun c w' hc q=>(hs.2 c ?_).trans q) (fun _ q=>q) fun _ _ q=>q
  rintro rfl;rcases hc with rfl | hc
  ·rw [hfree] at e;cases e
  ·rw [hfree] at hc;cases hc
 refine wpAny_nameGoes_keeps hk hn hcls fun h' v hn' hs=>?_
 obtain ⟨oL,_,_,hoL,_⟩:=id hn;refine h _ ⟨I.ok,I.os,I.bare,⟨fun b o e n hb hx=>?_,fun b o e n hb hx=>?_,I.base.free,fun b o e hx=>?_,I.base.tups,I.base.dB,I.base.dY⟩,⟨_,hn',fun i y v' e1 e2 e3=>?_⟩,fun y c e=>?_,I.free,I.fP,fun p hp=>?_,tracked ⟨oL,hoL,I.free⟩ hs,by simpa using I.len⟩
 ·exact (hs.2 b (I.oA e)).trans (I.base.keep b o e n hb hx)
 ·obtain ⟨sl,e1⟩:=I.base.slot b o e n hb hx
  exact ⟨sl,(hs.2 b (I.oA e)).trans e1⟩
 ·obtain ⟨o',e1⟩:=I.base.there b o e hx
  exact ⟨o',(hs.2 b (I.oA e)).trans e1⟩
 ·by_cases hji:i=j
  ·subst hji
   rw [List.getElem?_set] at e2
   split at e2
   ·split at e2<;>cases e2
   ·rename_i z;exact absurd rfl z
  ·rw [List.getElem?_set_ne (Ne.symm hji)] at e2
   obtain ⟨u',r',q⟩:=hl i y v' e1 e2 e3;refine ⟨u',r',?_⟩;rcases q with ⟨k,e⟩ | ⟨k,c,e,z⟩
   ·refine .inl ⟨k,?_⟩
    have:y≠n:=fun e=>hji (Qi hN e1 (e▸hj))
    simp [this,e]
   ·exact .inr ⟨k,c,e,z.sameBut hs (jg y c e)⟩
 ·obtain ⟨w',z⟩:=I.cell y c e
  exact ⟨w',z.sameBut hs (jg y c e)⟩
 ·obtain ⟨e,n,ne,nf,d⟩:=I.pin p hp
  exact ⟨(hs.2 p.1 ne).trans e,n,ne,nf,d⟩
end
def Ends.gone (D:Ends) (j:Nat):Ends:={ nx:=fun σ H=>D.nx (σ.set j none) H,rt:=D.rt,bk:=fun σ H=>D.bk (σ.set j none) H,ct:=fun σ H=>D.ct (σ.set j none) H }
section
variable {X:Cx} {pins:List (Addr×Obj)} {σ:St} {H H' H1:Hp} {s s1 s':Shared} {e:Value} {D:Ends} {ts:TS} {b₀:Stmt} {suite:List Stmt} {c n:Str} {cv:Value} {cp hpos:Pos} {j:Nat}
theorem Inv.uw (I:Inv X pins σ H1 s1) (hs:X.stack=X.env::X.outer) (hf:X.env.frame=some X.env.locals) (hN:X.N.Nodup) (hj:X.N[j]?=some n) (hk:X.env.scope.names.lookup n=some .local)
  (hq:iD X.prog X.w X.stack H1 s1 (fun cls dc H2=>PySem.W.exmOne X.K cls cv=some true/\∀ a,H2 a=none->ts (D.gone j) (σ.set j (some (.ref a))) (upd H2 a (Wv a cls dc))) e s')
  (vX:∀ a,gn (X.caught a) (b₀::suite) ts) (hc:Gl X c) (hcm:X.mg c=some cv) (hdb:(c==("__debug__":Str))=false) :
  wpAny (model X.prog X.w) X.A (noteFrame e X.env) (fun _ s₂=>wpAny (model X.prog X.w) X.A (setFlight e none) (fun _ s₃=>wpAny (model X.prog X.w) X.A (handleBy e X.env [.ExceptHandler (some (.Name c cp)) (some n) (b₀::suite) hpos]) (SP X pins D) X.xe s₃) X.xe s₂) X.xe s':=by
 obtain ⟨a,cls,H2,B,dc,rfl,os,bare,F,hdc,hm,ht⟩:=hq;obtain ⟨a0,fl⟩:=F.fl;have nf:=I.ur;have Gw:=fl;rw [hs] at Gw
 have hfr:=I.ok.frames;rw [hs] at hfr
 refine wpAny_mono (XR (WM _ _) hdc (wpAny_looks_onW (Q:=fun _ s₂=>∃ h₄ L,s₂={ s' with heap:=h₄ }/\Heap.HeldW B (X.env::X.outer) a cls a0 L h₄/\s'.heap.UpToSlots h₄) (E:=X.xe) hfr hf Gw fun h₄ held vY=>⟨h₄,_,rfl,held,vY⟩)) ?_ fun _ _ z=>z.1
 rintro _ s₂ ⟨⟨h₄,L4,rfl,held,vY⟩,hd4⟩;refine wpAny_mono (XR (X7 _ _) hd4 (wpAny_landsW (Q:=fun _ s₃=>∃ h₅,s₃={ s' with heap:=h₅ }/\Heap.FlyingW B (X.env::X.outer) a cls a0 h₅/\h₄.UpToSlots h₅) (E:=X.xe) held fun h₅ nF vZ=>⟨h₅,rfl,nF,vZ⟩)) ?_ fun _ _ z=>z.1
 rintro _ s₃ ⟨⟨h₅,rfl,nF,vZ⟩,hd5⟩;rw [<- hs] at nF
 have F5:=F.on ⟨a0,nF⟩ nf (vY.trans vZ);have I5:Inv X pins σ H2 { s' with heap:=h₅ }:=I.seen (s':={ s' with heap:=h₅ }) F5 os bare;have I5c:=I5.caught a;refine wpAny_handleBy_cons (codeAny_handlers_test (WG I5c hc hcm ?_ hdb)) (by intro q;cases q);obtain ⟨ob,hob,hcl⟩:=nF.there;have LT:PySem.W.Looks (model X.prog X.w) h₅ (typeOf (.ref a)) cls:=by
  subst hcl;exact (PySem.W.Looks.ld hob).andThen .now
 refine PySem.W.exm_one (K:=X.K) (h:=h₅) I5.bF LT hm _ _ _ _ (fun _ _ z=>z) ?_;refine codeAny_handlers_suite_as ?_;refine wpAny_mono (XR (X7 _ _) hd5 (lands_againW (Q:=fun _ s₄=>∃ h₆,s₄={ s' with heap:=h₆ }/\Heap.FlyingW B X.stack a cls a0 h₆/\h₅.UpToSlots h₆) (E:=fun _ _=>False) nF fun h₆ v7 v8=>⟨h₆,rfl,v7,v8⟩)) ?_ fun _ _ z=>z.1.elim
 rintro _ s₄ ⟨⟨h₆,rfl,v7,v8⟩,hd6⟩;have F6:=F5.on ⟨a0,v7⟩ nf v8;obtain ⟨u6,ok6⟩:=F6.track I.gY nf hd6;have I6:Inv X pins σ (upd H2 a (Wv a cls dc)) { s' with heap:=h₆ }:=I.call' (s':={ s' with heap:=h₆ }) (ch:=[]) os u6 ok6 bare fun b z=>nomatch z
 have I6c:=I6.caught a;refine Vj (X:=X.caught a) I6c hN hj (.inl hk) (v := .ref a) rfl (fun s7 I7=>?_) (.inr hk);refine wpAny_mono (vX a pins _ _ _ (D.gone j) I7 (ht a F6.out)) (fun f s8 z=>?_) fun _ _ z=>z.elim
 have key:∀ {σ':St} {H':Hp} {Q:St->Hp->Prop},Inv (X.caught a) pins σ' H' s8->Q (σ'.set j none) H'->∀ {R:Unit->Shared->Prop},(∀ s9,Inv X pins (σ'.set j none) H' s9->R () s9)->wpAny (model X.prog X.w) X.A (do bindName X.env n .none;unbindBehindTheSuite X.env n hpos) R X.xe s8 :=
  fun {σ' H' Q} J _ {R} hR=>Yhb (J.uncaught I.ok.hd) hN hj hk hR
 cases f with
 | next=>obtain ⟨σ',H',J,q⟩:=z;exact key (Q:=fun _ _=>True) J trivial fun s9 J9=>⟨_,_,J9,q⟩
 | brk=>obtain ⟨σ',H',J,q⟩:=z;exact key (Q:=fun _ _=>True) J trivial fun s9 J9=>⟨_,_,J9,q⟩
 | cont=>obtain ⟨σ',H',J,q⟩:=z;exact key (Q:=fun _ _=>True) J trivial fun s9 J9=>⟨_,_,J9,q⟩
 | ret u=>obtain ⟨v,σ',H',J,r,q⟩:=z;exact key (Q:=fun _ _=>True) J trivial fun s9 J9=>⟨v,_,_,J9,r,q⟩
end
def Gy (K:W.Frag) (cv:Value) (sp:Sp) (t:TA) (i j:Nat) (ts:TS):TS:=fun D σ H=>t σ H fun vs H1=>sp (vs++[]) H1 (fun v H2=>D.nx (σ.set i (some v)) H2) (fun cls dc H2=>W.exmOne K cls cv=some true/\∀ a,H2 a=none->ts (D.gone j) (σ.set j (some (.ref a))) (upd H2 a (Wv a cls dc)))
section
variable {g:Gx} {X:Cx} {k jj i j:Nat} {x f c n:Str} {ps:List Str} {sp:Sp} {e:Expr} {es:List Expr} {t:TA} {ts:TS} {b₀:Stmt} {suite:List Stmt} {cv:Value} {fp px cp hpos apos cpos pos:Pos}
theorem YfI (F:g.aK jj f ps sp) (hr:aR k X.A) (hN:X.N.Nodup) (hi:X.N[i]?=some x) (hx:Loc X.env.scope x) (hj:X.N[j]?=some n) (hk:X.env.scope.names.lookup n=some .local) (ha:PA X.cO (e::es) t) (hcm:g.mg c=some cv) (vX:∀ a,gn (X.caught a) (b₀::suite) ts)
  (hjk:jj<=k) (hX:X.gx=g) (hs:X.stack=X.env::X.outer) (hf:X.env.frame=some X.env.locals) (hg:Gl X f) (hc:Gl X c) (hdf:(f==("__debug__":Str))=false) (hdb:(c==("__debug__":Str))=false)
  (he:starEach (e::es) X.env=(false,eval e X.env)::starEach es X.env) (hpl:(backTo cpos (starEach es X.env)).any (·.1)=false)
  (hsw:swapsWith (.Call (.Name f fp) (e::es) [] cpos) (some (.Name x px)) apos.line X.env=pure false) (hfn:X.fn x=true\/X.env.scope.names.lookup x=some .local) :
  PS X (.Try [.Assign [.Name x px] (.Call (.Name f fp) (e::es) [] cpos) apos] [.ExceptHandler (some (.Name c cp)) (some n) (b₀::suite) hpos] [] [] pos) (Gy X.K cv sp t i j ts):=by
 subst hX;intro pins s σ H D I h;obtain ⟨fa,fd,F,b,kp,hm⟩:=F;refine wpAny_Try_except ?_;refine wpAny_execs_cons ?_;refine wpAny_Assign_Name (aB (Q:=EP X pins σ fun v H2=>D.nx (σ.set i (some v)) H2) ?_ fun v s1 hz=>?_) hsw
 ·refine wpAny_Call_Name_kw (WG I hg hm ?_ hdf)
  refine PySem.W.callWith_K (h₀:=X.base) I.ok.mod.j6 kp (wpAny_mono (ha cpos pins s σ H _ (I.wish _) h) (fun us s1 hz=>?_) fun _ _ z=>z.elim) he hpl;obtain ⟨vs,H1,I1,r,q⟩:=hz;have I1:=I1.eY;refine ⟨I1.bF,?_⟩;have r2:Yu (vs++[]) (us++[]):=r.append .nil;have hl:(us++[]).length=ps.length:=by rw [<- r2.length];exact F.len _ _ _ _ q
  refine wpAny_call (codeAny_mono (F.run X.A X.stack s1 H1 ⟨us,[]⟩ (us++[]) (vs++[]) _ _ (hr.mono hjk) I1.env0 (b s1 us I1.bF hl) r2 q) fun r s' hq=>?_)
  cases r with
  | error e=>exact I1.uw hs hf hN hj hk hq vX hc hcm hdb
  | ok fl =>
   cases fl with
   | ret u=>exact I1.after hq
   | next=>exact False.elim hq
   | brk=>exact False.elim hq
   | cont=>exact False.elim hq
 ·obtain ⟨y,H1,I1,r1,q1⟩:=hz
  exact Vj I1 hN hi hx r1 (fun s2 I2=>wpAny_execs_nil (wpAny_execs_nil ⟨_,H1,I2,q1⟩)) hfn
end
end L2
namespace PySem.W
open PySem PySem.Calls PyProof.Rows Builtin Builtin.ObjectAttr Builtin.Getset_descriptor
section
variable {prog:Program} {w:World} {A:Around} {E:Value->Shared->Prop} {K:Frag} {x C:Addr} {ox:Obj} {hh:Heap} {g:Array GenState} {d:Drawn} {t:Nat} {os:OsState}
theorem Gz (v:Value):bindSpecial (.builtin "BaseException.__getattribute__") v=pure (.builtin "BaseException.__getattribute__",[v]):=by
 have h1:withoutEnding? "BaseException.__getattribute__" "#opaque"=none:=by decide +kernel
 have h2:withoutEnding? "BaseException.__getattribute__" "#data"=none:=by decide +kernel
 have h3:builtinKind "BaseException.__getattribute__"=some .slot:=by decide +kernel
 simp only [bindSpecial,typeOf,builtinType,h1,h2,h3];rfl
theorem YeK {tp:Value} {R:Result->Shared->Prop} (In:K.In hh) (hx:hh.get? x=some ox) (hc:ox.cls = .ref C) (hm:mroIn K C (.type "object")=some true)
  (h:R (.ok (.ret (.ref C))) ⟨hh,g,d,t,os⟩):codeAny (model prog w) A (.call (.builtin "getset_descriptor.__get__") ⟨[.builtin "object.__class__",.ref x,tp],[]⟩) R ⟨hh,g,d,t,os⟩:=by
 have L0:Looks (model prog w) hh (typeOf (.ref x)) (.ref C):=by rw [<- hc];exact (Looks.ld hx).andThen .now
 have L1:=looks_mroIn (M:=model prog w) In hm;refine codeAny_call_builtin KF.slot_gs.plain KF.entry_gs (KF.slot_gs.check _ _ _ _ _ _ _ _ KF.type_class (KF.args_gs _ _ _) ?_);unfold Builtin.«getset_descriptor.__get__»;unfold descrGet;rw [dga_obj];refine wpAny_bind (wpAny_pure ?_);unfold descrGetter;unfold descrCheckInstance descrNameAndClass;unfold isInstance;simp only [KF.owner_class]
 repeat lk
 refine ⟨Code.quiet_builtin _ (by decide +kernel),codeAny_builtin KF.entry_class ?_⟩;unfold Builtin.«object.__class__»;unfold shownTypeOf
 repeat lk
 exact h
theorem YcI {tk:Tok} {Q:Fin->Shared->Prop} (In:K.In hh) (hx:hh.get? x=some ox) (hc:ox.cls = .ref C) (hm:mroIn K C (.type "object")=some true) (ha:findIn K (.ref C) "__class__"=some (some (.builtin "object.__class__")))
  (hq:Q (.done (.ret (.ref C))) ⟨hh,g,d,t,os⟩):wpAny (model prog w) A (Builtin.«object.__getattribute__» ⟨[.ref x,.str "__class__" tk],[]⟩) Q E ⟨hh,g,d,t,os⟩:=by
 have hT5:(⟨hh,g,d,t,os⟩:Shared).TypeIs (.builtin "object.__class__") "getset_descriptor":=F.typeOf_object_class;have f5:=F.typeOf_object_class;have f6:=F.slot_gs_get.lookup;have f7:=F.slot_gs_set.lookup;have L3:=looks_findIn (M:=model prog w) In ha
 repeat (any_goals (first | assumption | (with_reducible refine wpAny_loadPart_at hx ?_;rw [hc]) | with_reducible refine L3.at ?_ | wp_step))
 refine YeK In hx hc hm ?_
 repeat (any_goals (first | assumption | wp_step))
theorem Qh {nv:Value} {Q:Unit->Shared->Prop} (In:K.In hh) (hx:hh.get? x=some ox) (hc:ox.cls = .ref C) (hb:mroIn K C (.type "BaseException")=some true) (hq:Q () ⟨hh,g,d,t,os⟩) :
  wpAny (model prog w) A (checkBuiltinCall "BaseException.__getattribute__" ⟨[.ref x,nv],[]⟩) Q E ⟨hh,g,d,t,os⟩:=by
 have k1:builtinKind "BaseException.__getattribute__"=some .slot:=by decide +kernel
 have k2:splitId "BaseException.__getattribute__"=some ("BaseException","__getattribute__"):=by decide +kernel
 have k3:=F.args_bexc_ga (.ref x) nv;have L1:=looks_mroIn (M:=model prog w) In hb;simp only [checkBuiltinCall,k1,k2];refine wpAny_bind ?_;unfold isInstance
 repeat (first | (with_reducible refine wpAny_loadPart_at hx ?_;rw [hc]) | with_reducible refine L1.at ?_ | wp_step)
 exact hq
theorem YdM {tk:Tok} {R:Result->Shared->Prop} (In:K.In hh) (hx:hh.get? x=some ox) (hc:ox.cls = .ref C) (hm:mroIn K C (.type "object")=some true) (hb:mroIn K C (.type "BaseException")=some true) (ha:findIn K (.ref C) "__class__"=some (some (.builtin "object.__class__")))
  (hq:R (.ok (.ret (.ref C))) ⟨hh,g,d,t,os⟩):codeAny (model prog w) A (.call (.builtin "BaseException.__getattribute__") ⟨[.ref x,.str "__class__" tk],[]⟩) R ⟨hh,g,d,t,os⟩ :=
 codeAny_call_builtin (by decide +kernel) F.entry_bexc_ga (Qh In hx hc hb (YcI In hx hc hm ha hq))
theorem YfJ {tk:Tok} {Q:Value->Shared->Prop} (In:K.In hh) (hx:hh.get? x=some ox) (hc:ox.cls = .ref C) (hm:mroIn K C (.type "object")=some true) (hb:mroIn K C (.type "BaseException")=some true) (ha:findIn K (.ref C) "__class__"=some (some (.builtin "object.__class__")))
  (hga:findIn K (.ref C) "__getattribute__"=some (some (.builtin "BaseException.__getattribute__"))) (hgt:findIn K (.ref C) "__getattr__"=some none) (hbd:bindSpecial (.builtin "BaseException.__getattribute__") (.ref x)=pure (.builtin "BaseException.__getattribute__",[.ref x])) (hq:Q (.ref C) ⟨hh,g,d,t,os⟩) :
  wpAny (model prog w) A (getAttrBy (.ref x) (.str "__class__" tk) false) Q E ⟨hh,g,d,t,os⟩:=by
 have e2:(Value.builtin "BaseException.__getattribute__"==Value.builtin "object.__getattribute__")=false:=by decide +kernel
 have e1:(onTheHeap (Value.ref C)&&Value.builtin "BaseException.__getattribute__"==Value.builtin "object.__getattribute__")=false:=by rw [e2];rfl
 have e0:(false&&onTheHeap (Value.builtin "BaseException.__getattribute__"))=false:=rfl;have L1:=looks_findIn (M:=model prog w) In hga;have L2:=looks_findIn (M:=model prog w) In hgt
 repeat (any_goals (first | assumption | (with_reducible refine wpAny_loadPart_at hx ?_;rw [hc]) | with_reducible refine L1.at ?_ | with_reducible refine L2.at ?_ | wp_step))
 refine YdM In hx hc hm hb ha ?_
 repeat (any_goals (first | assumption | wp_step))
theorem YdN {Q:Option Value->Shared->Prop} (In:K.In hh) (hx:hh.get? x=some ox) (hc:ox.cls = .ref C) (hm:mroIn K C (.type "object")=some true) (hb:mroIn K C (.type "BaseException")=some true) (ha:findIn K (.ref C) "__class__"=some (some (.builtin "object.__class__")))
  (hga:findIn K (.ref C) "__getattribute__"=some (some (.builtin "BaseException.__getattribute__"))) (hgt:findIn K (.ref C) "__getattr__"=some none) (hq:Q (some (.ref C)) ⟨hh,g,d,t+1,os⟩) :
  wpAny (model prog w) A (getAttr? (.ref x) "__class__") Q E ⟨hh,g,d,t,os⟩:=by
 unfold getAttr? getAttrBy?;refine wpAny_bind (wpAny_mkText (wpAny_bind (wpAny_attempt (YfJ In hx hc hm hb ha hga hgt ?_ (wpAny_pure hq)))));exact Gz (.ref x)
theorem qK (hd:hasDictIn K C=true) (hm:mroIn K C (.type "object")=some true) (hb:mroIn K C (.type "BaseException")=some true) (ha:findIn K (.ref C) "__class__"=some (some (.builtin "object.__class__")))
  (hga:findIn K (.ref C) "__getattribute__"=some (some (.builtin "BaseException.__getattribute__"))) (hgt:findIn K (.ref C) "__getattr__"=some none):KitX K (.ref x) (.ref C) (fun h=>∃ o,h.get? x=some o/\o.cls = .ref C) where
 ty:=fun M h _ ⟨o,hx,hc⟩=>by rw [<- hc];exact (Looks.ld hx).andThen .now
 it:=fun M h In _=>by
  obtain ⟨cd,e,_⟩:=any_some hd;unfold clsIn at e
  split at e
  case h_2=>cases e
  case h_1 q =>
   intro A' Q' E' s' k z;unfold isType;unfold loadHead;exact wpAny_bind (wpAny_loadPart (k _ _ (In _ _ q)) (wpAny_pure z))
 ne:=fun h tp dd its n sl In htp=>by
  obtain ⟨cd,e,_⟩:=any_some hd;refine Bool.eq_false_iff.mpr fun z=>?_
  have z1:C=tp:=Value.ref.inj (beq_iff_eq.mp z);subst z1;unfold clsIn at e
  split at e
  case h_2=>cases e
  case h_1 q =>
   have y:=(In _ _ q).symm.trans htp
   cases y
 ca:=fun {prog w A E Q s} In ⟨o,hx,hc⟩ k=>by
  obtain ⟨hh,g,d,t,os⟩:=s;exact YdN In hx hc hm hb ha hga hgt k
end
end PySem.W
namespace L2
open PySem PySem.Spec PyProof.Rows
structure cA (K:W.Frag) (C:Addr):Prop where
 hd:W.hasDictIn K C=true
 hm:W.mroIn K C (.type "object")=some true
 hb:W.mroIn K C (.type "BaseException")=some true
 ha:W.findIn K (.ref C) "__class__"=some (some (.builtin "object.__class__"))
 hga:W.findIn K (.ref C) "__getattribute__"=some (some (.builtin "BaseException.__getattribute__"))
 hgt:W.findIn K (.ref C) "__getattr__"=some none
section
variable {X:Cx}
theorem Vp {g:Gx} {x:Str} {C:Addr} {pos:Pos} (h:g.mg x=some (.ref C)) (hX:X.gx=g:=by rfl) (hg:Gl X x:=by rfl) (hd:(x==("__debug__":Str))=false:=by decide):PE X (.Name x pos) (tC (.ref C)):=by
 subst hX;exact QW hg h rfl hd
end
theorem YfK {X:Cx} {a:Addr}:(X.caught a).K=X.K:=rfl
theorem GC {K:W.Frag} {C:Addr} {f:Str} (h:W.findIn K (.ref C) f=some none):Xe K C f:=h
theorem GD (es:List Expr) (x:Nat) (p:Pos) (es':List Expr) (env:Env):starEach (.Tuple es x p::es') env=(false,eval (.Tuple es x p) env)::starEach es' env:=rfl
theorem YfL (es:List Expr) (p:Pos) (es':List Expr) (env:Env):starEach (.List es p::es') env=(false,eval (.List es p) env)::starEach es' env:=rfl
end L2
namespace L2
open PySem
section
variable {src:List (Option Nat)} {te:TE} {σ:St} {H:Hp} {Q:VK}
theorem GF {J:It} {P:Hp->Prop} {xs:List V} (hJ:Ws J P xs) {H1:Hp} {D:Addr} (Rl:Nat->V->Hp->Prop) (st:∀ i y H H',Rl i y H->Same H H'->Rl i y H') (su:∀ i y H zs zs',Rl i y H->H D=some (.lst zs)->Rl i y (upd H D (.lst zs')))
  (hP:∀ H',Same H1 H'->P H') (hD:H1 D=none) (hlen:xs.length<=100000)
  (step:∀ (i:Nat) x H' zs,xs[i]?=some x->Same H1 H'->H' D=some (.lst zs)->∀ R:VK,(∀ y aL,Same H' aL->Rl i y aL->R y aL)->te (some x::YV src σ) H' R)
  (fin:∀ (ys:List V) H',Same H1 H'->H' D=some (.lst ys)->ys.length=xs.length->(∀ (j:Nat) y,ys[j]?=some y->Rl j y H')->Q (.ref D) H'):LC (none::src) J (YD 0) WJ te σ H1 Q D:=by
 have h6:100000<sizeLine:=by decide
 refine UW hJ (fun i zs σ' H'=>zs.length=i/\(∃ o,σ'=o::YV src σ)/\Same H1 H'/\H' D=some (.lst zs)/\∀ (j:Nat) y,zs[j]?=some y->Rl j y H')
  ⟨rfl,⟨none,rfl⟩,.ao hD _,Yf,fun j y h=>by simp at h⟩ (fun i zs σ' H' ⟨_,_,p1,p2,_⟩=>⟨hP _ p1,p2⟩) (Vb 0) ?_ ?_
 ·rintro i zs σ' H' x hx ⟨hi',⟨o,rfl⟩,sm,hd,hts⟩
  have hi:=(List.getElem?_eq_some_iff.mp hx).1
  show te (some x::YV src σ) H' _
  refine step i x H' zs hx sm hd _ fun y aL s2 hy=>⟨s2 _ _ hd,by omega,by simp [hi'],⟨_,rfl⟩,.cu hD (sm.trans s2) _,Yf,fun j z hj=>su _ _ _ _ _ ?_ (s2 _ _ hd)⟩
  rcases Nat.lt_trichotomy j zs.length with h1 | h1 | h1
  ·rw [List.getElem?_append_left h1] at hj
   exact st _ _ _ _ (hts j z hj) s2
  ·have hb:y=z:=by subst h1;simpa using hj
   subst hb;rw [h1,hi'];exact hy
  ·rw [List.getElem?_eq_none (by rw [List.length_append,List.length_singleton];omega)] at hj;cases hj
 ·rintro zs σ' H' ⟨hn,_,sm,hd,hts⟩
  exact fin zs H' sm hd hn hts
theorem YfM {K:W.Frag} {tl:TE} {xs:List V} {b:Addr} (Rl:Addr->Nat->V->Hp->Prop) (st:∀ D i y H H',Rl D i y H->Same H H'->Rl D i y H') (su:∀ D i y H zs zs',Rl D i y H->H D=some (.lst zs)->Rl D i y (upd H D (.lst zs')))
  (ha:∀ R:V->Hp->Prop,R (.ref b) H->tl σ H R) (hS:au K H b xs) (hlen:xs.length<=100000)
  (step:∀ D (i:Nat) x H' zs,xs[i]?=some x->Same H H'->H' D=some (.lst zs)->∀ R:VK,(∀ y aL,Same H' aL->Rl D i y aL->R y aL)->te (some x::YV src σ) H' R)
  (fin:∀ D (ys:List V) H',H D=none->Same H H'->H' D=some (.lst ys)->ys.length=xs.length->(∀ (j:Nat) y,ys[j]?=some y->Rl D j y H')->Q (.ref D) H'):iT (none::src) (V0 K tl) (YD 0) WJ te σ H Q :=
 ha _ ⟨b,rfl,⟨xs,hS⟩,fun D hD=>GF (Va.imp fun H' (e:Same H H')=>e.seq hS) (Rl D) (st D) (su D) (fun _ e=>e) hD hlen (fun i x H' zs hx sm hd R r=>step D i x H' zs hx sm hd R r) fun ys H' sm=>fin D ys H' hD sm⟩
theorem GJ {K:W.Frag} {tl:TE} {xs:List V} {b:Addr} (Rl:Addr->Nat->V->Hp->Prop) (st:∀ D i y H H',Rl D i y H->Same H H'->Rl D i y H') (su:∀ D i y H zs zs',Rl D i y H->H D=some (.lst zs)->Rl D i y (upd H D (.lst zs')))
  (ha:∀ R:V->Hp->Prop,R (.ref b) H->tl σ H R) (hS:aD K H b xs) (hlen:xs.length<=100000)
  (step:∀ D (i:Nat) x H' zs,xs[i]?=some x->Same H H'->H' D=some (.lst zs)->∀ R:VK,(∀ y aL,Same H' aL->Rl D i y aL->R y aL)->te (some x::YV src σ) H' R)
  (fin:∀ D (ys:List V) H',H D=none->Same H H'->H' D=some (.lst ys)->ys.length=xs.length->(∀ (j:Nat) y,ys[j]?=some y->Rl D j y H')->Q (.ref D) H'):iT (none::src) (qD K tl) (YD 0) WJ te σ H Q :=
 ha _ ⟨b,rfl,⟨xs,hS⟩,fun D hD=>GF (FT.imp fun H' (e:Same H H')=>e.tup hS) (Rl D) (st D) (su D) (fun _ e=>e) hD hlen (fun i x H' zs hx sm hd R r=>step D i x H' zs hx sm hd R r) fun ys H' sm=>fin D ys H' hD sm⟩
end
mutual
inductive VL (H:Hp):V->PyData->List Addr->Prop
 | int (i:Int):VL H (.int i) (.int i) []
 | str (x:Str) (h:PyData.strOk x=true):VL H (.str x) (.str x) []
 | lst {a:Addr} {vs:List V} {ds:List PyData} {L:List Addr}:H a=some (.lst vs)->vs.length<=10000->pD H vs ds L->VL H (.ref a) (.list ds) (a::L)
 | tup {a:Addr} {vs:List V} {ds:List PyData} {L:List Addr}:H a=some (.tup vs)->vs.length<=10000->pD H vs ds L->VL H (.ref a) (.tuple ds) L
inductive pD (H:Hp):List V->List PyData->List Addr->Prop
 | nil:pD H [] [] []
 | cons {v:V} {d:PyData} {L:List Addr} {vs:List V} {ds:List PyData} {L':List Addr}:VL H v d L->pD H vs ds L'->pD H (v::vs) (d::ds) (L++L')
end
def pF (H H':Hp):Prop:=∀ a vs,H a=some (.tup vs)->H' a=some (.tup vs)
theorem pF.jW {H:Hp} {p:Addr} {xs ys:List V} (h:H p=some (.lst xs)):pF H (upd H p (.lst ys)):=fun a vs ha=>by
 rw [Yq (W6 ha h (by intro z;cases z))];exact ha
end L2
namespace L2
open PySem PySem.Spec PyProof.Rows
section
variable {X:Cx} {pos:Pos}
def Yhc:V->List V->Hp->VK->Prop:=fun x vs H Q=>∃ (z y:Str),x = .str z/\vs=[.str y]/\Q (.bl (Txt.startswith z y)) H
theorem YeL:nj X "str.startswith" Yhc:=by
 intro pins s σ H x vs v us Q I rx r h;obtain ⟨z,y,rfl,rfl,q⟩:=h;obtain ⟨t,rfl⟩:=rx;obtain ⟨u,rfl,ru⟩:=XO r;obtain ⟨t',rfl⟩:=ru;exact call_gives F.slot_str_startswith (typeIs_str s z t) F.entry_str_startswith (F.args_str_startswith_2 _ _) (gives_str_startswith z y t t') ⟨.bl _,H,I,rfl,q⟩
theorem YaT:Xt X (.type "int") (fun xs H Q=>∃ x n,xs=[.str x]/\PySem.intText? x=some n/\x.length<=640/\Q (.int n) H):=by
 intro pins s σ H xs us Q I r h;obtain ⟨x,n,rfl,hn,hl,q⟩:=h;obtain ⟨u,rfl,t,rfl⟩:=XO r;exact W.KIN.call_text hn hl ⟨.int n,H,I.tok _,⟨_,rfl⟩,q⟩
end
def dg (i:Int):List Nat:=(Str.ofString (toString i)).cps.toList
theorem Uy (i:Int):Str.ofString (toString i)=S (dg i):=by unfold dg S;simp
theorem Ww (n:Nat):dg (n:Int)=(Nat.toDigits 10 n).map Char.toNat:=W.KIN.signs_num n
theorem VA (n:Nat):∀ c∈dg (n:Int),48<=c/\c<=57:=by
 intro c hc;rw [Ww] at hc
 obtain ⟨ch,hch,e⟩:=List.mem_map.mp hc;have r:=PyProof.Rows.digit_range (Nat.isDigit_of_mem_toDigits (by decide) (by decide) hch);rw [<- e];exact r
theorem GK {n:Nat} (h:0<n):∃ c r,dg (n:Int)=c::r/\c≠48:=by
 rw [Ww]
 induction n using Nat.strongRecOn with
 | _ m ih =>
  by_cases h1:m<10
  ·rw [Nat.toDigits_of_lt_base h1]
   refine ⟨_,[],rfl,?_⟩;have:∀ d:Nat,d<10->0<d->(Nat.digitChar d).toNat≠48:=by decide
   exact this m h1 h
  ·have hm:m%10<10:=Nat.mod_lt m (by decide)
   have t:Nat.toDigits 10 (m / 10)++Nat.toDigits 10 (m%10)=Nat.toDigits 10 (10*(m / 10)+m%10):=Nat.toDigits_append_toDigits (by decide) (by omega) hm;rw [Nat.div_add_mod] at t
   obtain ⟨c,r,e,hc⟩:=ih (m / 10) (by omega) (by omega);rw [<- t,List.map_append,e];exact ⟨c,_,rfl,hc⟩
theorem v9 (n:Nat):dg (n:Int)≠[]:=by
 by_cases h:n=0
 ·subst h;decide +kernel
 ·obtain ⟨c,r,e,_⟩:=GK (n:=n) (by omega)
  rw [e];simp
theorem Uz {n:Nat} (h:0<n):dg (-(n:Int))=45::dg (n:Int):=by
 obtain ⟨m,rfl⟩:∃ m,n=m+1:=⟨n - 1,by omega⟩;rw [Ww];unfold dg;rw [Str.ofString_eq_byList]
 show ((toString (Int.negSucc m)).toList.map Char.toNat)=_
 have e:toString (Int.negSucc m)="-"++Nat.repr (m+1):=rfl;rw [e,String.toList_append,List.map_append,Nat.toList_repr];rfl
theorem QG {n k:Nat} (hk:0<k) (h:n<10^k):(dg (n:Int)).length<=k:=by
 rw [Ww,List.length_map];have:=(Nat.length_repr_le_iff hk).mpr h
 rwa [<- String.length_toList,Nat.toList_repr] at this
theorem wg {i:Int} (h:i.natAbs<10^600):PySem.intText? (S (dg i))=some i:=by
 have hl:=QG (k:=600) (by decide) h;rcases Int.natAbs_eq i with e | e
 ·rw [e]
  have e1:(S (dg (i.natAbs:Int))).cps.toList=dg (i.natAbs:Int):=YZ _;have:=PySem.intText_digits (x:=S (dg (i.natAbs:Int))) (by rw [e1];exact VA _) (by rw [e1];exact v9 _) (by rw [Ys];omega);rw [this,e1,Ww,W.KIN.val_back]
 ·by_cases h0:i.natAbs=0
  ·have:i=0:=by omega
   subst this
   decide +kernel
  ·rw [e,Uz (by omega)]
   have e1:(S (45::dg (i.natAbs:Int))).cps.toList=45::dg (i.natAbs:Int):=YZ _;have:=PySem.intText_neg (x:=S (45::dg (i.natAbs:Int))) e1 (VA _) (v9 _) (by rw [Ys,List.length_cons];omega);rw [this,Ww,W.KIN.val_back]
end L2
namespace L2
open PySem
section
variable {src:List (Option Nat)} {te:TE} {σ:St} {H:Hp} {Q:VK}
theorem YdP {ta:TA} {n:Nat} (I:Addr->Nat->List V->Hp->Prop) (ha:∀ R:List V->Hp->Prop,R [.int n] H->ta σ H R) (hlen:n<=100000)
  (i0:∀ D,H D=none->I D 0 [] (upd H D (.lst []))) (dl:∀ D i zs H',I D i zs H'->zs.length=i/\H' D=some (.lst zs))
  (step:∀ D (i:Nat) zs H',H D=none->i<n->I D i zs H'->∀ R:VK,(∀ y aL,aL D=some (.lst zs)->I D (i+1) (zs++[y]) (upd aL D (.lst (zs++[y])))->R y aL)->te (some (.int i)::YV src σ) H' R)
  (fin:∀ D zs H',H D=none->I D n zs H'->Q (.ref D) H'):iT (none::src) (rK ta) (YD 0) WJ te σ H Q:=by
 refine ha _ ⟨n,rfl,by omega,by omega,fun D hD=>?_⟩;have h6:100000<sizeLine:=by decide
 refine UW (Qf (lo:=0) (n:=n) (P:=fun _=>True)) (fun i zs σ' H'=>(∃ o,σ'=o::YV src σ)/\i<=n/\I D i zs H') ⟨⟨none,rfl⟩,Nat.zero_le _,i0 D hD⟩ (fun i zs σ' H' q=>⟨trivial,(dl _ _ _ _ q.2.2).2⟩) (Vb 0) ?_ ?_
 ·rintro i zs σ' H' x hx ⟨⟨o,rfl⟩,_,hI⟩
  have hi:i<n:=by have:=(List.getElem?_eq_some_iff.mp hx).1;simpa using this
  rw [List.getElem?_map,List.getElem?_range hi] at hx
  have e:V.int (0+(i:Int))=x:=Option.some.inj hx;rw [Int.zero_add] at e
  subst e;have hl:=(dl _ _ _ _ hI).1
  show te (some (.int i)::YV src σ) H' _
  exact step D i zs H' hD hi hI _ fun y aL hd hI'=>⟨hd,by omega,⟨_,rfl⟩,hi,hI'⟩
 ·rintro zs σ' H' ⟨_,_,hI⟩
  exact fin D zs H' hD (by simpa using hI)
end
end L2
namespace L2
open PySem PySem.Spec PyProof.Rows
def Gx.ji (g:Gx) (k:Nat) (C:Addr) (m:Str) (ps:List Str) (sp:Sp):Prop:=∃ f fd,dZ g.P g.w g.K g.mg g.base (iD g.P g.w) k f fd ps sp/\Xn g.K fd ps []/\Meth g.K C m f
section
variable {g:Gx} {k:Nat} {x qual m:Str} {st:Stmt} {N ps:List Str} {sp:Sp} {C:Addr}
theorem Gx.eX.GP (R:g.eX C m qual st ps) (S:aq N ps (Yh st)) (len:∀ vs H Q E,sp vs H Q E->vs.length=ps.length) (b:Gu g k N qual st sp):g.ji (k+1) C m ps sp:=by
 obtain ⟨f,fd,F,bd,hm⟩:=R;refine ⟨f,fd,?_,bd,hm⟩;obtain ⟨oc,od,kV,doc,pm,an,cdv,ct,osl,rfl,lk,hcd⟩:=F.ex;exact vh lk hcd S len fun A outer s H vs Q E hr h=>b f cdv A outer s H vs Q E hr h
theorem Gx.ji.mono {j:Nat} (F:g.ji j C m ps sp) (h:j<=k):g.ji k C m ps sp:=by
 obtain ⟨f,fd,F,r⟩:=F;exact ⟨f,fd,F.mono h,r⟩
theorem Gx.eX.jm (R:g.eX C m qual st ps) (no:∀ vs H Q E,¬ sp vs H Q E):g.ji k C m ps sp:=by
 obtain ⟨f,fd,F,bd,hm⟩:=R;exact ⟨f,fd,⟨fun vs H Q E h=>absurd h (no vs H Q E),fun A outer s H args us vs Q E _ _ _ _ h=>absurd h (no vs H Q E)⟩,bd,hm⟩
end
section
variable {g:Gx} {X:Cx} {k j:Nat} {x m:Str} {ps:List Str} {sp:Sp} {E:XK} {C:Addr} {e o:Expr} {es:List Expr} {t:TA} {ta:TE} {p pos apos:Pos}
theorem UX {pl:Sem Bool} (F:g.ji j C m ps sp) (c:Cls g.K C) (hr:aR k X.A) (hp:XL (iD g.P g.w) X E) (ho:PE X o ta) (hj:j<=k:=by omega) (hX:X.gx=g:=by rfl)
  (ht:eval (.Call (.Attribute o m apos) [] [] pos) X.env=(do
   let ov <- eval o X.env
   standAt apos.atName
   let (f,first) <- holding [ov] (getMethod ov m pl)
   callWith pos f first (backTo pos (starEach [] X.env)) (backToKw pos (keywordEach [] X.env))):=by rfl):PE X (.Call (.Attribute o m apos) [] [] pos) (UU C m sp [] E ta QY):=by
 subst hX;obtain ⟨f,fd,F,b,hm⟩:=F;exact Ej ho c hm F (hr.mono hj) b .nil hp ht
end
theorem YhX {P:Program} {w:World} {X:Cx}:XL (iD P w) X (fun _ _ _=>False):=by
 intro pins σ H s e s' I h;obtain ⟨_,_,_,_,_,_,_,_,_,_,z⟩:=h;exact z.elim
def Wm (l:List Str) (v:Str):List Str:=if l.any (·==v) then l else l++[v]
def met (val:Nat->Str) (i:Nat):List Str:=((List.range i).map val).foldl Wm []
theorem YfN (val:Nat->Str):met val 0=[]:=rfl
theorem WN (val:Nat->Str) (i:Nat):met val (i+1)=Wm (met val i) (val i):=by
 unfold met;rw [List.range_succ,List.map_append,List.foldl_append];rfl
theorem wj (val:Nat->Str):∀ i,(met val i).length<=i
 | 0=>by rw [YfN];exact Nat.le_refl _
 | i+1=>by
  rw [WN];unfold Wm;have ih:=wj val i
  split
  ·omega
  ·rw [List.length_append,List.length_singleton];omega
theorem GQ (l:List Str) (v k:Str):(Wm l v).any (·==k)=(l.any (·==k)||decide (k=v)):=by
 unfold Wm;by_cases h:l.any (·==v)=true
 ·rw [if_pos h]
  by_cases e:k=v
  ·subst e;rw [h];simp
  ·simp [e]
 ·rw [if_neg h,List.any_append]
  by_cases e:k=v
  ·subst e;simp
  ·have hb:(v==k)=false:=by simpa [beq_iff_eq] using (fun h':v=k=>e h'.symm)
   simp [hb,e]
theorem GR (l:List Str) (v:Str):(Wm l v).length=if l.any (·==v) then l.length else l.length+1:=by
 unfold Wm;split<;>simp
theorem Q4 {val:Nat->Str}:∀ {n:Nat},(∀ i j,i<j->j<n->val i≠val j)->met val n=(List.range n).map val
 | 0,_=>rfl
 | n+1,h=>by
  rw [WN,Q4 fun i j a b=>h i j a (by omega),List.range_succ,List.map_append];unfold Wm;rw [if_neg]
  ·rfl
  ·simp only [List.any_map,List.any_eq_true,List.mem_range,Function.comp,beq_iff_eq,not_exists,not_and]
   intro i hi e;exact h i n hi (by omega) e
section
variable {prog:Program} {w:World} {A:Around} {R:Result->Shared->Prop} {I:Addr} {fp wr:List Addr} {G:Array GenState->Array GenState->Prop} {n:Nat} {P:Nat->Value->Prop} {St:Nat->Shared->Prop}
theorem GX (W:WalksS prog w A.in1 I fp wr G n P St) (S:Addr) (hSf:S∉fp)
  (val:Nat->Str) (hval:∀ i v,P i v->∃ t,v = .str (val i) t) (hb:n+1<scanBound) :
  ∀ (k i:Nat) (s:Shared),n - i=k->i<=n->St i s ->
   s.heap.SetOf (PySem.strKind prog w) S (fun k'=>(met val i).any (·==k')) (met val i).length ->
   (∀ s',Moved (S::wr) G s s'->s'.heap.SetOf (PySem.strKind prog w) S (fun k'=>(met val n).any (·==k')) (met val n).length->R (.ok (.ret .none)) s') ->
   codeAny (model prog w) A (.builtin "set.update.loop" ⟨[.ref S,.ref I],[]⟩) R s:=by
 have hSw:S∉wr:=fun h=>hSf (W.sub _ h)
 have hsub:∀ b∈wr,b∈S::wr:=fun b hb=>List.mem_cons_of_mem _ hb
 intro k
 induction k with
 | zero =>
  intro i s hk hi hst hS hR;have hin:i=n:=by omega
  subst hin;refine codeAny_builtin F.entry_set_update_loop ?_;rw [Around.under_plainId F.plain_set_update_loop _]
  show wpAny _ A.in1 (pyNext (.ref I) >>= _) _ _ s
  refine wpAny_bind (W.done s _ _ hst fun s' hm=>?_)
  show wpAny _ A.in1 (ret Value.none) _ _ s'
  exact wpAny_pure (hR s' (hm.mono hsub) (by
   obtain ⟨o,es,ep,t,ho,Y7⟩:=hS;exact ⟨o,es,ep,t,hm.heap S _ hSw ho,Y7⟩))
 | succ k ih =>
  intro i s hk hi hst hS hR;have hlt:i<n:=by omega
  refine codeAny_builtin F.entry_set_update_loop ?_;rw [Around.under_plainId F.plain_set_update_loop _]
  show wpAny _ A.in1 (pyNext (.ref I) >>= _) _ _ s
  refine wpAny_bind (W.item i s _ _ hlt hst fun v s' hP hst' hm=>?_);obtain ⟨t,rfl⟩:=hval i v hP;have hS':s'.heap.SetOf (PySem.strKind prog w) S (fun k'=>(met val i).any (·==k')) (met val i).length:=by
   obtain ⟨o,es,ep,tb,ho,Y7⟩:=hS;exact ⟨o,es,ep,tb,hm.heap S _ hSw ho,Y7⟩
  show wpAny _ A.in1 (holding [Value.str (val i) t] (setAdd S (.str (val i) t)) >>= _) _ _ s'
  refine wpAny_bind (wpAny_holding ?_);unfold setAdd;refine wpAny_holding ?_;have his:(PySem.strKind prog w).is (val i) (.str (val i) t)=true:=by simp [PySem.strKind,Value.isStrOf]
  refine wpAny_bind ((PySem.strKind prog w).pyHash (k:=val i) his ?_);have hroom:(met val i).length+1<scanBound:=by have:=wj val i;omega
  refine wpAny_setAddHashed_of (knd:=PySem.strKind prog w) (s:={ s' with toks:=s'.toks+1 }) his rfl hS' hroom fun h' hsb hS2=>?_
  have hSi:h'.SetOf (PySem.strKind prog w) S (fun k'=>(met val (i+1)).any (·==k')) (met val (i+1)).length :=
   SetOf_congr hS2 (fun k'=>by rw [WN,GQ]) (by rw [WN,GR])
  refine wpAny_pure ⟨plainId_quiet F.plain_set_update_loop _,ih (i+1) _ (by omega) hlt (W.frame _ s' _ _ hst' (Nat.le_succ _) fun b hb o e=>?_) hSi fun s'' hm'' hS''=>?_⟩
  ·rw [hsb.2 b (fun h:b=S=>hSf (by rw [<- h];exact hb))];exact e
  ·refine hR s'' (Moved.trans W.gtrans ((hm.mono hsub).then_heap (Nat.le_succ _) fun b o hb e=>?_) hm'') hS''
   rw [hsb.2 b (fun h:b=S=>hb (by rw [h];exact List.mem_cons_self))];exact e
end
theorem YcJ:isSubtype (.type "str") (.type "set")=pure false:=by rw [isSubtype_type];kernel_rfl
theorem Qc:isSubtype (.type "str") (.type "frozenset")=pure false:=by rw [isSubtype_type];kernel_rfl
def sg (x:Str) (i:Nat):Str:=⟨#[x.cps.getD i 0]⟩
section
variable {prog:Program} {w:World} {A:Around} {E:Value->Shared->Prop} {s:Shared}
set_option maxHeartbeats 3200000 in
theorem YdQ {x:Str} {u:Tok} {Q:Value->Shared->Prop}
  (hh:A.handled=none) (hb:x.cps.size+1<scanBound)
  (h:∀ (h':Heap) (tk:Nat),h'.SetOf (PySem.strKind prog w) s.heap.objs.size (fun k'=>(met (sg x) x.cps.size).any (·==k')) (met (sg x) x.cps.size).length ->
   (∀ b o,b<s.heap.objs.size->s.heap.get? b=some o->h'.get? b=some o)->Q (.ref s.heap.objs.size) { s with heap:=h',toks:=tk }) :
  wpAny (model prog w) A (call (.type "set") [.str x u]) Q E s:=by
 obtain ⟨c,tl,hmro⟩:=PySem.F.called_set.mro;have hmade:=PySem.F.called_set.made;have hsub:=PySem.F.called_set.sub;refine wpAny_call (codeAny_of_tree ?_)
 show wpAny _ _ (callAny (.type "set") _) _ _ _
 refine wpAny_pure ⟨Code.quiet_builtin _ (by decide +kernel),codeAny_builtin PySem.F.entry_type_call ?_⟩;rw [Around.under_plain (weight_type_call_type "set" [.str x u] []) rfl];have h1:=PySem.F.called_set.notType;have h2:=PySem.F.called_set.canCreate;have hct:=PySem.F.typeCall_set_1 (.str x u)
 repeat (any_goals (first | assumption | wp_step))
 refine codeAny_mono (code_set_new_1 (.str x u) (E:=E) (Q₁:=fun obj s₁=>∃ led:Bool,obj = .ref s.heap.objs.size/\s₁={ s with heap:=s.heap.push { cls := .type "set",dict:=none,data := .set #[] 0 (.fresh 0 0 led) } }) fun led=>⟨led,rfl,rfl⟩) fun r s₁ hr=>?_
 cases r with
 | error e=>exact hr
 | ok fl =>
  cases fl with
  | ret obj =>
   obtain ⟨led,rfl,rfl⟩:=hr;have hS:(s.heap.push { cls := .type "set",dict:=none,data := .set #[] 0 (.fresh 0 0 led) }).get? s.heap.objs.size=some { cls := .type "set",dict:=none,data := .set #[] 0 (.fresh 0 0 led) }:=Heap.get?_push_size _ rfl;have hT:Shared.TypeIs { s with heap:=s.heap.push { cls := .type "set",dict:=none,data := .set #[] 0 (.fresh 0 0 led) } } (.ref s.heap.objs.size) "set":=⟨_,hS,rfl⟩;have hli:=PySem.F.called_set.init.lookup;have hbi:=PySem.F.called_set.init.bind (.ref s.heap.objs.size)
   repeat (any_goals (first | assumption | wp_step))
   refine codeAny_mono (codeAny_call_builtin (R:=wants (fun r s₂=>r = .none/\∃ h' tk,s₂={ s with heap:=h',toks:=tk } /\
     h'.SetOf (PySem.strKind prog w) s.heap.objs.size (fun k'=>(met (sg x) x.cps.size).any (·==k')) (met (sg x) x.cps.size).length /\
     (∀ b o,b<s.heap.objs.size->s.heap.get? b=some o->h'.get? b=some o)) E) PySem.F.called_set.init.plain PySem.F.entry_set_init (check_set_init_1 hT ?_)) fun r₂ s₂ hr₂=>?_
   ·have hsls:=YcJ
    have hslf:=Qc;have hne:(Value.type "str"==Value.type "dict")=false:=by decide
    unfold Builtin.«set.__init__» noKeywords Builtin.Frozenset.updateFrom;generalize hPI:pyIter=PI
    wp_walk
    subst hPI;refine wpAny_pyIter_str fun oI St W st0=>?_
    refine wpAny_bind (wpAny_runValue ?_);have hh3:A.in1.in1.in1.handled=none:=by simp [hh]
    have hSf:s.heap.objs.size∉[(s.heap.push { cls := .type "set",dict:=none,data := .set #[] 0 (.fresh 0 0 led) }).objs.size]:=by
     rw [Heap.size_push];simp only [List.mem_cons,List.not_mem_nil,or_false];exact Nat.ne_of_lt (Nat.lt_succ_self _)
    have hval:∀ (i:Nat) (v:Value),SignAt x i v->∃ t,v = .str (sg x i) t:=fun i v hv=>by
     obtain ⟨c,t,e,rfl⟩:=hv;refine ⟨t,?_⟩;unfold sg;rw [Array.getD_eq_getD_getElem?,e];rfl
    refine GX ((W _ hh3).toS) s.heap.objs.size hSf (sg x) hval hb (x.cps.size - 0) 0 _ (by omega) (Nat.zero_le _) st0 ?hS0 ?hR
    case hS0 =>
     have hget:((s.heap.push { cls := .type "set",dict:=none,data := .set #[] 0 (.fresh 0 0 led) }).push oI).get? s.heap.objs.size
       = some { cls := .type "set",dict:=none,data := .set #[] 0 (.fresh 0 0 led) }:=Heap.get?_push_of_some _ hS
     exact SetOf_congr ((setObjOf_fresh (knd:=PySem.strKind prog w) led).setOf hget (by unfold scanBound;omega)) (fun _=>rfl) rfl
    case hR =>
     intro s' hm hS';obtain ⟨h',g',d',tk',os'⟩:=s';have eg:g'=s.gens:=hm.gens;have ed:d'=s.drawn:=hm.drawn;have eo:os'=s.os:=hm.os;subst eg;subst ed;subst eo
     show wpAny _ _ _ _ _ _
     refine wpAny_pure ?_
     show wpAny _ _ (ret Value.none) _ _ _
     refine wpAny_pure ⟨rfl,h',tk',rfl,hS',fun b o hb e=>?_⟩;have hb1:b≠s.heap.objs.size:=Nat.ne_of_lt hb;have hb2:b≠(s.heap.push { cls := .type "set",dict:=none,data := .set #[] 0 (.fresh 0 0 led) }).objs.size:=by
      rw [Heap.size_push];exact Nat.ne_of_lt (Nat.lt_succ_of_lt hb)
     exact hm.heap b o (by simp only [List.mem_cons,List.not_mem_nil,or_false,not_or];exact ⟨hb1,hb2⟩) (Heap.get?_push_of_some _ (Heap.get?_push_of_some _ e))
   ·cases r₂ with
    | error e=>exact hr₂
    | ok fl₂ =>
     cases fl₂ with
     | ret r =>
      obtain ⟨rfl,h',tk,rfl,hS',hk'⟩:=hr₂
      repeat (any_goals (first | assumption | wp_step))
      exact h _ _ hS' hk'
     | _=>exact hr₂.elim
  | _=>exact hr.elim
end
def V7 (a:Addr) (n:Nat):HO := .ext fun h=>∃ (o:Obj) (es:Array (Int×Value)) (ep:Nat) (t:SetTable),h.get? a=some o/\o.ExactSet/\o.data = .set es ep t/\t.fits es.size=true/\es.size=n/\n<scanBound
section
variable {X:Cx}
theorem YaU (hc:X.calm=true:=by rfl):Xt X (.type "set") (fun xs H Q=>∃ x,xs=[.str x]/\x.length<=1000/\∀ a,H a=none->Q (.ref a) (upd H a (V7 a (met (sg x) x.cps.size).length))):=by
 intro pins s σ H xs us Q I r h;obtain ⟨x,rfl,hl,q⟩:=h;obtain ⟨u,rfl,t,rfl⟩:=XO r;have hl':x.cps.size<=1000:=hl;refine YdQ (I.ok.hd hc) (by unfold scanBound;omega) fun h' tk hS hk=>?_
 refine ⟨.ref s.heap.objs.size,_,I.laid (o:=V7 s.heap.objs.size _) (fun b o e=>hk b o (Heap.lt_size e) e) (Nat.le_refl _) ?_,rfl,q _ (I.hok.fresh (Nat.le_refl _))⟩;obtain ⟨o,es,ep,tb,ho,hex,hd,_,_,hb,hf,hn⟩:=hS;exact ⟨⟨o,es,ep,tb,ho,hex,hd,hf,hn,by omega⟩,⟨o,ho⟩,fun h1 h2 p k=>by obtain ⟨o,es,ep,tb,ho,z⟩:=p;exact ⟨o,es,ep,tb,k o ho,z⟩⟩
theorem W5:Xt X (.builtin "len") (fun xs H Q=>∃ a n,xs=[.ref a]/\H a=some (V7 a n)/\Q (.int (n:Nat)) H):=by
 intro pins s σ H xs us Q I r h;obtain ⟨a,n,rfl,ha,q⟩:=h;obtain ⟨u,rfl,ru⟩:=XO r;obtain rfl:u=Value.ref a:=ru;obtain ⟨⟨o,es,ep,tb,ho,hex,hd,hf,hn,hb⟩,_,_⟩:=I.hok a _ ha;subst hn;refine call_len_set ho hex hd hf ?_ ⟨.int _,H,I.tok _,⟨_,rfl⟩,q⟩;unfold scanBound at hb;omega
end
theorem GZ:∀ (tk:Nat) (xs:List Str),Yu (xs.map V.str) (strsFrom tk xs)
 | _,[] => .nil
 | tk,x::r => .cons ⟨tk,rfl⟩ (GZ (tk+1) r)
theorem G3 (c:Nat):∀ l:List Nat,cnt c l<=l.length
 | []=>by rw [cnt_nil];simp
 | n::r=>by
  have:=G3 c r;rw [cnt_cons,List.length_cons]
  split<;>omega
theorem YeN (x:Str) (c:Nat):(Txt.split x ⟨#[c]⟩).length<=x.length+1:=by
 have h1:=split_len x c;have h2:=G3 c x.cps.toList;rw [Array.length_toList] at h2
 have:x.length=x.cps.size:=rfl;omega
section
variable {X:Cx}
def YhY:V->List V->Hp->VK->Prop:=fun x vs H Q=>∃ (z:Str) (c:Nat),x = .str z/\vs=[.str ⟨#[c]⟩]/\z.length<=100000/\∀ l,H l=none->Q (.ref l) (upd H l (.lst ((Txt.split z ⟨#[c]⟩).map V.str)))
theorem G4:nj X "str.split" YhY:=by
 intro pins s σ H x vs v us Q I rx r h;obtain ⟨z,c,rfl,rfl,hl,q⟩:=h;obtain ⟨t,rfl⟩:=rx;obtain ⟨u,rfl,ru⟩:=XO r;obtain ⟨t',rfl⟩:=ru;have hs:=YeN z c;have big:200000<=sizeLine:=by decide
 have hy:((⟨#[c]⟩:Str).length==0)=false:=rfl;have one:Txt.split z ⟨#[c]⟩=[z]->EP X pins σ Q (.ref s.heap.objs.size) { s with heap:=s.heap.push { cls := .type "list",data := .seq [Value.str z t].toArray } }:=fun e=>by
  have hq:=q _ (I.hok.fresh (Nat.le_refl _));rw [e] at hq
  exact ⟨.ref s.heap.objs.size,_,I.lE (ys:=[V.str z]) (.cons ⟨t,rfl⟩ .nil) (by show 1<=sizeLine;decide),rfl,hq⟩
 by_cases h1:(decide (z.length<(⟨#[c]⟩:Str).length)||decide (PySem.Builtin.Str.strKind z<PySem.Builtin.Str.strKind ⟨#[c]⟩))=true
 ·refine call_meets F.slot_str_split (typeIs_str s z t) F.entry_str_split (F.args_str_split_2 _ _) (meets_str_split_cannot_occur z ⟨#[c]⟩ t t' h1) ?_
  exact one (by unfold Txt.split;rw [if_pos h1])
 ·have h1':=Bool.eq_false_iff.mpr h1
  by_cases hf:(PySem.Builtin.Str.occurrences z ⟨#[c]⟩ 0 z.length (z.length+1)).isEmpty=true
  ·refine call_meets F.slot_str_split (typeIs_str s z t) F.entry_str_split (F.args_str_split_2 _ _) (meets_str_split_not_found z ⟨#[c]⟩ t t' h1' hy hf) ?_
   exact one (by unfold Txt.split;rw [if_neg h1,if_pos hf])
  ·have hf':=Bool.eq_false_iff.mpr hf
   have e:Txt.split z ⟨#[c]⟩=PySem.Builtin.Str.partsBetween z (PySem.Builtin.Str.occurrences z ⟨#[c]⟩ 0 z.length (z.length+1)) (⟨#[c]⟩:Str).length:=by unfold Txt.split;rw [if_neg h1,if_neg hf]
   rw [e] at hs
   refine call_meets F.slot_str_split (typeIs_str s z t) F.entry_str_split (F.args_str_split_2 _ _) (meets_str_split_sep z ⟨#[c]⟩ t t' h1' hy hf' (by omega) (by omega)) ?_;have hq:=q _ (I.hok.fresh (Nat.le_refl _));rw [e] at hq
   exact ⟨.ref s.heap.objs.size,_,I.lE (GZ _ _) (by rw [List.length_map];omega),rfl,hq⟩
end
theorem G5 (a:Array Nat):∀ (n:Nat) (b:Array Nat),((List.replicate n a).foldl (·++·) b).size=b.size+n*a.size
 | 0,b=>by simp
 | n+1,b=>by
  rw [List.replicate_succ,List.foldl_cons,G5 a n,Array.size_append,Nat.succ_mul];omega
def off (H:Hp) (cs:List Addr):Hp:=fun b=>if b∈cs then none else H b
def on (H' H:Hp) (cs:List Addr):Hp:=fun b=>if b∈cs then H b else H' b
abbrev rZ:=List (Str×Addr×V)
end L2
namespace HT
open PySem PySem.Spec PyProof.Rows
variable {prog:Program} {w:World} {A:Around} {E:Value->Shared->Prop} {s:Shared}
end HT
namespace L2
open PySem PySem.Spec PyProof.Rows
abbrev Dx:=List (PyData×Addr×Addr)
theorem Yhd {e:Value} {env env':Env} (h:env.frame=env'.frame):noteFrame e env=noteFrame e env':=by
 unfold noteFrame PySem.frameOf;rw [h]
def XV (B:Heap) (l:List Env) (e:Addr) (cls a0:Value) (h:Heap):Prop:=B.StaysIn h/\B.get? e=none/\h.FunFrames B l/\∃ fl,h.TracedAtW B e cls a0 fl
section
variable {M:Model} {A:Around} {E:Value->Shared->Prop} {s:Shared} {B:Heap} {env:Env} {outer l:List Env} {e L:Addr} {cls a0:Value} {Q:Unit->Shared->Prop}
theorem YdS {fr:Option Addr} (R:XV B l e cls a0 s.heap) (h:∀ h',XV B l e cls a0 h'->s.heap.UpToSlots h'->Q () { s with heap:=h' }):wpAny M A (setFlight (.ref e) fr) Q E s:=by
 obtain ⟨kb,en,fl,f,oe,vs,T,oT,ts,he,hc,hd,h1,nT,neT,hT,dT,h3⟩:=R;have sz:3<ts.size:=(Array.getElem?_eq_some_iff.mp h3).1;have oth:∀ b,b≠T->(s.heap.update T (Obj.mapFields (·.setIfInBounds 3 (fr.elim Value.none fun f=>rawInt f)))).get? b=s.heap.get? b:=fun b hb=>Heap.get?_update_other _ _ (Ne.symm hb)
 have nr:∀ b o,s.heap.get? b=some o->(∀ vs,o.data ≠ .fields vs)->b≠T:=fun b o hb hn q=>by
  rw [q,hT] at hb
  cases hb
  exact hn ts dT
 unfold setFlight;refine wpAny_bind (wpAny_field he hd h1 ?_);rw [if_pos (show (Value.ref T != Value.none)=true by simp)];refine wpAny_setField hT dT sz (h _ ⟨fun b o q=>(oth b fun z=>by rw [z,nT] at q;cases q).trans (kb b o q),en,fl.of_keeps fun b o q n=>⟨o,(oth b (nr b o q n)).trans q,rfl⟩,fr.elim Value.none fun f=>rawInt f,oe,vs,T,_,_,(oth e (Ne.symm neT)).trans he,hc,hd,h1,nT,neT,Heap.get?_update_self _ hT (Obj.isFreed_of_fields (Obj.data_mapFields dT _)),Obj.data_mapFields dT _,?_⟩ fun b o q n=>⟨o.slots,(oth b (nr b o q n)).trans q⟩);simp [sz]
theorem G6 (hfr:A.frames=some (env::outer)) (hf:env.frame=some L) (R:XV B (env::outer) e cls a0 s.heap) (hQ:∀ h',XV B (env::outer) e cls a0 h'->s.heap.UpToSlots h'->Q () { s with heap:=h' }):wpAny M A (noteFrame (.ref e) env) Q E s:=by
 obtain ⟨kb,en,fl,f,oe,vs,T,oT,ts,he,⟨hc,h0⟩,hd,h1,nT,neT,hT,dT,h3⟩:=R;subst hc;unfold noteFrame;simp only [hf];refine wpAny_bind (wpAny_field he hd h1 ?_);rw [if_pos (show (Value.ref T != Value.none)=true by simp)];refine wpAny_bind (wpAny_field hT dT h3 ?_);by_cases c:(f==rawInt L)=true
 ·rw [if_pos c]
  exact wpAny_pure (hQ s.heap ⟨kb,en,fl,f,oe,vs,T,oT,ts,he,⟨rfl,h0⟩,hd,h1,nT,neT,hT,dT,h3⟩ (.refl _))
 ·rw [if_neg c]
  have oth:∀ b,b≠T->(s.heap.update T (Obj.mapFields (·.setIfInBounds 3 Value.none))).get? b=s.heap.get? b:=fun b hb=>Heap.get?_update_other _ _ (Ne.symm hb)
  have nr:∀ b o,s.heap.get? b=some o->(∀ vs,o.data ≠ .fields vs)->b≠T:=fun b o hb hn q=>by
   rw [q,hT] at hb
   cases hb
   exact hn ts dT
  refine wpAny_bind (wpAny_setField hT dT (Array.getElem?_eq_some_iff.mp h3).1 ?_);exact wpAny_entryW hfr (fl.of_keeps fun b o q n=>⟨o,(oth b (nr b o q n)).trans q,rfl⟩) hf ((oth e (Ne.symm neT)).trans he) (fun b o q=>(oth b fun z=>by rw [z,nT] at q;cases q).trans (kb b o q)) en hd (Array.getElem?_eq_some_iff.mp h1).1 h0
   fun h' ⟨x1,x2,x3,x4⟩=>hQ h' ⟨x1,en,x2,_,x3⟩ fun b o q n=>x4 b o ((oth b (nr b o q n)).trans q) n
theorem YeO (hfr:A.frames=some (env::outer)) (hf:env.frame=some L) (R:XV B (env::outer) e cls a0 s.heap) (hQ:∀ h',Heap.FlyingW B outer e cls a0 h'->s.heap.UpToSlots h'->Q () { s with heap:=h' }):wpAny M A (leaving env (.ref e)) Q E s:=by
 unfold leaving;refine wpAny_bind (G6 hfr hf R fun h1 ⟨k1,k2,k3,fl,k4⟩ u1=>?_);refine wpAny_setFlight_noneW k1 k3 k4 fun h2 j1 j2 j3 j4=>hQ h2 ⟨j1,k2,j2.2.2,j3⟩ ?_
 exact u1.trans fun b o q n=>⟨o.slots,j4 b o q n⟩
theorem XV.hide {h h':Heap} {C:Addr} {oc:Obj} (R:XV B l e cls a0 h) (hC:B.get? C=some oc) (sb:Heap.SameBut C h h'):XV (W.hideAll B [C]) l e cls a0 h':=by
 obtain ⟨kb,en,fl,f,oe,vs,T,oT,ts,he,hc,hd,h1,nT,neT,hT,dT,h3⟩:=R;have nC:∀ {b:Addr},B.get? b=none->b≠C:=fun {b} q z=>by rw [z,hC] at q;cases q
 have hn:∀ {b:Addr},B.get? b=none->(W.hideAll B [C]).get? b=none:=fun {b} q=>by
  cases z:(W.hideAll B [C]).get? b with
  | none=>rfl
  | some o=>rw [W.of_hideAll _ z] at q;cases q
 have ff:∀ {l:List Env},h.FunFrames B l->h'.FunFrames (W.hideAll B [C]) l:=fun {l}=>by
  induction l with
  | nil=>exact fun _=>trivial
  | cons x r ih =>
   rintro ⟨z1,⟨L,o,z2,z3,z4,z5⟩,z6⟩;exact ⟨z1,⟨L,o,z2,hn z3,(sb.2 L (nC z3)).trans z4,z5⟩,ih z6⟩
 refine ⟨fun b o q=>?_,hn en,ff fl,f,oe,vs,T,oT,ts,(sb.2 e (nC en)).trans he,hc,hd,h1,hn nT,neT,(sb.2 T (nC nT)).trans hT,dT,h3⟩;have:b≠C:=fun z=>by rw [z,W.hideAll_none _ (by simp)] at q;cases q
 exact (sb.2 b this).trans (kb b o (W.of_hideAll _ q))
end
section
variable {X:Cx} {pins:List (Addr×Obj)} {σ:St} {H H':Hp} {s s1 s':Shared} {B:Heap} {e C:Addr} {cls a0:Value} {M:Model} {A:Around} {Q:Unit->Shared->Prop} {EE:Value->Shared->Prop}
theorem Inv.oF {oc:Obj} (I:Inv X pins σ H s) (hs:X.stack=X.env::X.outer) (hf:X.env.frame=some X.env.locals) (hex:X.ex=[]) (hA:A.frames=some (X.env::X.outer)) (F:eG X.prog X.w X.stack H s.heap e cls H' s1.heap B)
  (hC:s.heap.get? C=some oc) (nG:H C=none) (pC:X.s₀.heap.objs.size<=C) (R:XV (PySem.W.hideAll B [C]) (X.env::X.outer) e cls a0 s'.heap) {dc:Option Addr} (hd:Xf s'.heap e dc) (up:∀ b o,b≠C->s1.heap.get? b=some o->(∀ vs,o.data ≠ .fields vs)->∃ sl,s'.heap.get? b=some { o with slots:=sl })
  (hQ:∀ h'',eG X.prog X.w X.outer X.H₀ X.s₀.heap e cls H' h'' (PySem.W.hideAll B [C])->Xf h'' e dc->Q () { s' with heap:=h'' }):wpAny M A (leaving X.env (.ref e)) Q EE s':=by
 have nx:∀ b:Addr,b∉X.ex:=by
  rw [hex];intro b z
  cases z
 have old:∀ {b:Addr} {o:Obj},X.s₀.heap.get? b=some o->b≠C:=fun {b o} q=>Nat.ne_of_lt (Nat.lt_of_lt_of_le (Heap.lt_size q) pC)
 have nm:∀ {b:Addr},b≠C->b∉[C]:=fun {b} n z=>n (by simpa using z)
 rw [hs] at F
 refine wpAny_mono (XR (Wu _ _) hd (YeO (Q:=fun _ s2=>∃ h'',s2={ s' with heap:=h'' }/\eG X.prog X.w X.outer X.H₀ X.s₀.heap e cls H' h'' (PySem.W.hideAll B [C])) hA hf R fun h'' x1 x2=>⟨h'',rfl,?_⟩)) (fun _ s2 z=>by
  obtain ⟨⟨h'',rfl,F⟩,d⟩:=z;exact hQ h'' F d) fun _ _ z=>z.1
 refine ⟨⟨a0,x1⟩,fun b o q=>?_,fun b o q n nb=>PySem.W.hideAll_get _ (F.keep b o (I.base.keep b o q n nb (nx b)) (I.base.free b o q n (nx b)) (I.iw hf q nb)) (nm (old q)),fun b o q n hb=>?_,fun b o q nb=>?_,fun b o q n=>?_,fun b xs q=>F.tups b xs (I.base.tups b xs q),fun b o u q=>F.dB b o u (I.base.dB b o u q),fun b ps q=>?_⟩
 ·have hn:H' C=none:=F.free C oc hC nG
  refine (F.hok b o q).stay (fun c v hc r=>PySem.W.hideAll_get _ r (nm fun z=>?_)) (fun _ z=>z) fun _ _ z=>z
  rw [z] at hc
  rcases hc with hc | hc
  ·rw [<- hc,hn] at q;cases q
  ·rw [hn] at hc;cases hc
 ·obtain ⟨sl,e1⟩:=I.base.slot b o q n hb (nx b)
  obtain ⟨vW,e2⟩:=F.slot b _ e1 (I.base.free b o q n (nx b)) (I.rY hf hb);obtain ⟨_,o',e',d⟩:=I.ok.fB.mem hb;rw [q] at e'
  cases e'
  obtain ⟨sl2,e3⟩:=up b _ (old q) e2 d;obtain ⟨wk,e4⟩:=x2 b _ e3 d;exact ⟨wk,e4⟩
 ·obtain ⟨o',e1⟩:=I.base.there b o q (nx b)
  obtain ⟨o2,e2⟩:=F.al b o' e1 (I.iw hf q nb);exact ⟨o2,PySem.W.hideAll_get _ e2 (nm (old q))⟩
 ·obtain ⟨o',e1⟩:=I.base.there b o q (nx b)
  exact F.free b o' e1 (I.base.free b o q n (nx b))
 ·obtain ⟨m1,e1⟩:=I.base.dY b ps q
  obtain ⟨m2,e2⟩:=F.dY b _ e1;exact ⟨m1++m2,by rw [e2,Array.append_assoc]⟩
end
def UY (X:Cx) (E:XK):Prop:=X.stack=X.env::X.outer/\X.env.frame=some X.env.locals/\∀ (pins:List (Addr×Obj)) (σ:St) (H H':Hp) (s s1 s':Shared) (B:Heap) (e C:Addr) (cls a0:Value) (oc:Obj),Inv X pins σ H s->eG X.prog X.w X.stack H s.heap e cls H' s1.heap B->s.heap.get? C=some oc->H C=none->X.s₀.heap.objs.size<=C->XV (W.hideAll B [C]) (X.env::X.outer) e cls a0 s'.heap ->
 (∀ b o,b≠C->s1.heap.get? b=some o->(∀ vs,o.data ≠ .fields vs)->∃ sl,s'.heap.get? b=some { o with slots:=sl })->s'.os=s.os->AllBare s'.gens->∀ dc,Xf s'.heap e dc->E cls dc H'->X.xe (.ref e) s'
theorem Q5 {g:Gx} {N:List Str} {qual:Str} {st:Stmt} {f:Addr} {cdv:Value} {A:Around} {outer:List Env} {s:Shared} {H:Hp} {E:XK}:UY (g.nA N qual st f cdv A outer s H E) E :=
 ⟨rfl,rfl,fun pins σ H1 H' s2 s1 s' B e C cls a0 oc I F hC nG pC R up os bare dc hd q=>I.oF rfl rfl rfl I.ok.frames F hC nG pC R hd up fun h'' F' hd'=>⟨e,cls,H',_,dc,rfl,os.trans I.os,bare,F',hd',q⟩⟩
def qL (X:Cx) (E:XK) (scope:Scope) (N':List Str) (cl:List (Str×Addr)) (C:Addr) (s₀:Shared) (H₀:Hp) (fp:List Addr) (pn:List (Addr×Obj)):Cx :=
 (cP X scope N' cl C s₀ H₀ fp pn).wish fun e s'=>∃ pins σ H s,Inv (cP X scope N' cl C s₀ H₀ fp pn) pins σ H s/\iD X.prog X.w X.stack H s E e s'
theorem wu {X:Cx} {E:XK} {scope:Scope} {N':List Str} {cl:List (Str×Addr)} {C:Addr} {s₀:Shared} {H₀:Hp} {fp:List Addr} {pn:List (Addr×Obj)}:XL (iD X.prog X.w) (qL X E scope N' cl C s₀ H₀ fp pn) E :=
 fun pins σ H s e s' I hq=>⟨pins,σ,H,s,I.eY,hq⟩
section
variable {X:Cx}
theorem G7 {scope:Scope} {N':List Str} {cl:List (Str×Addr)} {pins:List (Addr×Obj)} {σ:St} {E:XK} {use:Option (Value->Sem Unit)} {P:Value->Shared->Prop} (hL:UY X E) (D:Addr) (s3:Shared) (H3:Hp) (fp:List Addr) (jJ:Inv X pins σ H3 s3)
  (fin:∀ {H':Hp} {s':Shared} {σ':St} {fX:List (Addr×Obj)},Inv (cP X scope N' cl s3.heap.objs.size s3 H3 fp (X.pn++pins)) fX σ' H' s'->∀ h',Heap.SameBut s3.heap.objs.size s'.heap h'->Inv X pins σ H' { s' with heap:=h' }) :
  ∀ (e:Value) (s':Shared),(∃ fX σ' H s,Inv (cP X scope N' cl s3.heap.objs.size s3 H3 fp (X.pn++pins)) fX σ' H s/\iD X.prog X.w X.stack H s E e s') ->
   notedBy (model X.prog X.w) X.A (compEnvC scope cl s3.heap.objs.size X.env) (fun e s'=>compPost (model X.prog X.w) X.A X.xe use P (.ref D) s3.heap.objs.size (.error e) s') e s':=by
 obtain ⟨hst,hfr,hX⟩:=hL;have nfr:s3.heap.objs.size∉frs X.stack:=fun z=>by
  obtain ⟨_,o,e,_⟩:=jJ.stack.mem z;exact absurd (Heap.lt_size e) (Nat.lt_irrefl _)
 rintro e s' ⟨fX,σ',H',s5,I5,ea,cls,aL,B,dc,rfl,os5,Cp,F,hdc,qE⟩;obtain ⟨m,hn,_⟩:=I5.loc;obtain ⟨oc,es,ep,hoc,Ox,Y7⟩:=id hn;have nG:H' s3.heap.objs.size=none:=I5.free;have wz:s5.heap.get? s3.heap.objs.size=some oc:=hoc;have wA:B.get? s3.heap.objs.size=some oc:=F.keep _ _ wz nG nfr;obtain ⟨a0,fl⟩:=F.fl;rw [hst] at fl
 unfold notedBy;rw [Yhd (show (compEnvC scope cl s3.heap.objs.size X.env).frame=X.env.frame from rfl)];have fA:X.A.frames=some (X.env::X.outer):=by rw [<- hst];exact jJ.ok.frames
 obtain ⟨f1,f2,f3,f4⟩:=fl;refine wpAny_mono (XR (WM _ _) hdc (G6 (Q:=fun _ s2=>∃ h1,s2={ s' with heap:=h1 }/\XV B (X.env::X.outer) ea cls a0 h1/\s'.heap.UpToSlots h1) (E:=fun _ _=>False) fA hfr ⟨f1,f2,f3,_,f4⟩ fun h1 R1 u1=>⟨h1,rfl,R1,u1⟩)) ?_ fun _ _ z=>z.1.elim
 rintro _ s2 ⟨⟨h1,rfl,R1,u1⟩,hd1⟩;refine ⟨m,⟨oc,es,ep,R1.1 _ _ wA,Ox,Y7⟩,fun h2 wB cenv _=>?_⟩;have hd2:Xf h2 ea dc:=by
  obtain ⟨o,d1,d2⟩:=hd1;refine ⟨o,(wB.2 ea fun z=>?_).trans d1,d2⟩;rw [z,wA] at f2
  cases f2
 have R2:=R1.hide wA wB;obtain ⟨_,_,_,fg,oe,vs,T,oT,ts,ze,_,zd,z1,_⟩:=id R2;unfold PySem.passOn;refine wpAny_bind (wpAny_field ze zd z1 ?_);rw [if_neg (show ¬ ((Value.ref T==Value.none)=true) by simp)];have tail:wpAny (model X.prog X.w) X.A (setFlight (.ref ea) cenv.frame >>= fun _=>throw (.ref ea):Sem Value) (fun _ _=>False) X.xe { s' with heap:=h2 }:=by
  refine wpAny_bind (wpAny_mono (XR (X7 _ _) hd2 (YdS (Q:=fun _ s2=>∃ h3,s2={ s' with heap:=h3 }/\XV (PySem.W.hideAll B [s3.heap.objs.size]) (X.env::X.outer) ea cls a0 h3/\h2.UpToSlots h3) (E:=X.xe) (s:={ s' with heap:=h2 }) R2 fun h3 R3 u3=>⟨h3,rfl,R3,u3⟩)) ?_ fun _ _ z=>z.1);rintro _ s2 ⟨⟨h3,rfl,R3,u3⟩,hd3⟩;refine wpAny_throw ?_;refine hX pins σ H' aL { s5 with heap:=s5.heap } s' _ B ea s3.heap.objs.size cls a0 oc (fin I5 _ ⟨rfl,fun _ _=>rfl⟩) F wz nG jJ.sz R3 (fun b o nb q n=>?_) os5 Cp dc hd3 qE;obtain ⟨vW,e1⟩:=u1 b o q n;have e2:=(wB.2 b nb).trans e1;obtain ⟨wk,e3⟩:=u3 b _ e2 n;exact ⟨wk,e3⟩
 first
  | exact wpAny_bind (wpAny_pure tail)
  | exact tail
theorem G8 {elt tg iter:Expr} {ifs:List Expr} {scope:Scope} {pos:Pos} {src:List (Option Nat)} {N':List Str} {wi:TI} {g:TG} {tt:TT} {te:TE} {E:XK} (hL:UY X E) (hcap:iu X scope src N') (hc:X.calm=true) (hi:PI X tg iter wi)
  (hg:∀ cl C s₀ H₀ fp pn,PG (cP X scope N' cl C s₀ H₀ fp pn) tg g) (ht:∀ cl C s₀ H₀ fp pn,lF (cP X scope N' cl C s₀ H₀ fp pn) ifs tt) (he:∀ cl C s₀ H₀ fp pn,PE (qL X E scope N' cl C s₀ H₀ fp pn) elt te)
  (hfree:∀ x,(x,NameKind.free)∈scope.names->X.env.scope.names.lookup x=some NameKind.cell\/X.env.scope.names.lookup x=some NameKind.free)
  (hk:scope.kind = .function:=by rfl) (hcell:∀ y∈scope.names,y.2 ≠ .cell:=by decide) (hnames:∀ y∈scope.names,y.2 = .local->scope.names.lookup y.1=some .local:=by decide +kernel)
  (hs:∀ x,foldedSetIterable iter X.env x=pure x:=by intro _;rfl):PE X (.ListComp elt [⟨tg,iter,ifs,0⟩] scope pos) (iT src wi g tt te):=by
 intro pins s σ H Q I h;obtain ⟨cl,hcl,a,b⟩:=W9 X.env scope fun x hx=>I.ok.has x (hfree x hx)
 rw [eval_ListComp];refine wpAny_comprehension_free (use:=none) rfl hs hcl hk hnames (aB (hi pins s σ H _ I h) fun v s1 h1=>aB h1 fun itv s2 h2=>?_);exact V5 (Po:=fun v C=>compPost (model X.prog X.w) X.A X.xe none (EP X pins σ Q) v C) (Z:=fun C s₀ H₀ fp pn e s'=>∃ pins σ H s,Inv (cP X scope N' cl C s₀ H₀ fp pn) pins σ H s/\iD X.prog X.w X.stack H s E e s') hcap hc (hg cl) (ht cl) (he cl) hk hcell a b h2 (fun D C s6 H5 fi ⟨m,hn⟩ _ _ qn=>⟨m,hn,fun h' sb=>⟨.ref D,H5,fi h' sb,rfl,qn⟩⟩) (G7 hL)
end
section
variable {prog:Program} {w:World} {A:Around} {E:Value->Shared->Prop} {s:Shared}
set_option maxHeartbeats 3200000 in
theorem YcK {l:Addr} {items:Array Value} {val:Nat->Str} {Q:Value->Shared->Prop}
  (hh:A.handled=none) (hl:s.heap.IsList l items) (hval:∀ (i:Nat) (v:Value),items[i]?=some v->∃ t,v = .str (val i) t) (hb:items.size+1<scanBound)
  (h:∀ (h':Heap) (tk:Nat),h'.SetOf (PySem.strKind prog w) s.heap.objs.size (fun k'=>(met val items.size).any (·==k')) (met val items.size).length ->
   (∀ b o,b<s.heap.objs.size->s.heap.get? b=some o->h'.get? b=some o)->Q (.ref s.heap.objs.size) { s with heap:=h',toks:=tk }) :
  wpAny (model prog w) A (call (.type "set") [.ref l]) Q E s:=by
 obtain ⟨c,tl,hmro⟩:=F.called_set.mro;have hmade:=F.called_set.made;have hsub:=F.called_set.sub;refine wpAny_call (codeAny_of_tree ?_)
 show wpAny _ _ (callAny (.type "set") _) _ _ _
 refine wpAny_pure ⟨Code.quiet_builtin _ (by decide +kernel),codeAny_builtin F.entry_type_call ?_⟩;rw [Around.under_plain (weight_type_call_type "set" [.ref l] []) rfl];have h1:=F.called_set.notType;have h2:=F.called_set.canCreate;have hct:=F.typeCall_set_1 (.ref l)
 repeat (any_goals (first | assumption | wp_step))
 refine codeAny_mono (code_set_new_1 (.ref l) (E:=E) (Q₁:=fun obj s₁=>∃ led:Bool,obj = .ref s.heap.objs.size/\s₁={ s with heap:=s.heap.push { cls := .type "set",dict:=none,data := .set #[] 0 (.fresh 0 0 led) } }) fun led=>⟨led,rfl,rfl⟩) fun r s₁ hr=>?_
 cases r with
 | error e=>exact hr
 | ok fl =>
  cases fl with
  | ret obj =>
   obtain ⟨led,rfl,rfl⟩:=hr;have hS:(s.heap.push { cls := .type "set",dict:=none,data := .set #[] 0 (.fresh 0 0 led) }).get? s.heap.objs.size=some { cls := .type "set",dict:=none,data := .set #[] 0 (.fresh 0 0 led) }:=Heap.get?_push_size _ rfl;have hT:Shared.TypeIs { s with heap:=s.heap.push { cls := .type "set",dict:=none,data := .set #[] 0 (.fresh 0 0 led) } } (.ref s.heap.objs.size) "set":=⟨_,hS,rfl⟩;have hli:=F.called_set.init.lookup;have hbi:=F.called_set.init.bind (.ref s.heap.objs.size)
   repeat (any_goals (first | assumption | wp_step))
   refine codeAny_mono (codeAny_call_builtin (R:=wants (fun r s₂=>r = .none/\∃ h' tk,s₂={ s with heap:=h',toks:=tk } /\
     h'.SetOf (PySem.strKind prog w) s.heap.objs.size (fun k'=>(met val items.size).any (·==k')) (met val items.size).length /\
     (∀ b o,b<s.heap.objs.size->s.heap.get? b=some o->h'.get? b=some o)) E) F.called_set.init.plain F.entry_set_init (check_set_init_1 hT ?_)) fun r₂ s₂ hr₂=>?_
   ·have hsls:=F.sub_list_set
    have hslf:=F.sub_list_frozenset;have hne:(Value.type "list"==Value.type "dict")=false:=by decide
    obtain ⟨ol,hol,hcl,nl,hdl⟩:=hl;obtain ⟨ocls,odict,odata,oslots⟩:=ol;simp only at hcl hdl;subst hcl hdl;have hol2:=Heap.get?_push_of_some (h:=s.heap) { cls := .type "set",dict:=none,data := .set #[] 0 (.fresh 0 0 led) } hol;have hl1:(s.heap.push { cls := .type "set",dict:=none,data := .set #[] 0 (.fresh 0 0 led) }).IsList l items:=⟨_,hol2,rfl,nl,rfl⟩;unfold Builtin.«set.__init__» noKeywords Builtin.Frozenset.updateFrom;generalize hPI:pyIter=PI
    wp_walk
    subst hPI;refine wpAny_pyIter_list hl1 (wpAny_bind (wpAny_runValue ?_));have lS:l<s.heap.objs.size:=Heap.lt_size hol;have h3:A.in1.in1.in1.handled=none:=by simp [hh]
    have nI:l≠(s.heap.push { cls := .type "set",dict:=none,data := .set #[] 0 (.fresh 0 0 led) }).objs.size:=by
     rw [Heap.size_push];exact Nat.ne_of_lt (Nat.lt_trans lS (Nat.lt_succ_self _))
    have sF:s.heap.objs.size∉[(s.heap.push { cls := .type "set",dict:=none,data := .set #[] 0 (.fresh 0 0 led) }).objs.size,l]:=by
     rw [Heap.size_push];simp only [List.mem_cons,List.not_mem_nil,or_false,not_or];exact ⟨Nat.ne_of_lt (Nat.lt_succ_self _),fun z=>Nat.lt_irrefl _ (z▸lS)⟩
    refine GX ((Walks.list h3 _ l nI items).toS) s.heap.objs.size sF val hval hb (items.size - 0) 0 _ (by omega) (Nat.zero_le _) ⟨⟨_,Heap.get?_push_size _ rfl,rfl,rfl⟩,hl1.push _⟩ ?hS0 ?hR
    case hS0 =>
     have hget:((s.heap.push { cls := .type "set",dict:=none,data := .set #[] 0 (.fresh 0 0 led) }).push { cls := .type "list_iterator",data := .fields #[.ref l,.int 0 0] }).get? s.heap.objs.size
       = some { cls := .type "set",dict:=none,data := .set #[] 0 (.fresh 0 0 led) }:=Heap.get?_push_of_some _ hS
     exact SetOf_congr ((setObjOf_fresh (knd:=PySem.strKind prog w) led).setOf hget (by unfold scanBound;omega)) (fun _=>rfl) rfl
    case hR =>
     intro s' hm hS';obtain ⟨h',g',d',tk',os'⟩:=s';have eg:g'=s.gens:=hm.gens;have ed:d'=s.drawn:=hm.drawn;have eo:os'=s.os:=hm.os;subst eg;subst ed;subst eo
     show wpAny _ _ _ _ _ _
     refine wpAny_pure ?_
     show wpAny _ _ (ret Value.none) _ _ _
     refine wpAny_pure ⟨rfl,h',tk',rfl,hS',fun b o hb e=>?_⟩;have hb1:b≠s.heap.objs.size:=Nat.ne_of_lt hb;have hb2:b≠(s.heap.push { cls := .type "set",dict:=none,data := .set #[] 0 (.fresh 0 0 led) }).objs.size:=by
      rw [Heap.size_push];exact Nat.ne_of_lt (Nat.lt_succ_of_lt hb)
     exact hm.heap b o (by simp only [List.mem_cons,List.not_mem_nil,or_false,not_or];exact ⟨hb1,hb2⟩) (Heap.get?_push_of_some _ (Heap.get?_push_of_some _ e))
   ·cases r₂ with
    | error e=>exact hr₂
    | ok fl₂ =>
     cases fl₂ with
     | ret r =>
      obtain ⟨rfl,h',tk,rfl,hS',hk'⟩:=hr₂
      repeat (any_goals (first | assumption | wp_step))
      exact h _ _ hS' hk'
     | _=>exact hr₂.elim
  | _=>exact hr.elim
end
section
variable {X:Cx}
theorem Uk (hc:X.calm=true:=by rfl):Xt X (.type "set") (fun xs H Q=>∃ (l:Addr) (ts:List Str),xs=[.ref l]/\au X.K H l (ts.map V.str)/\ts.length<=1000/\∀ a,H a=none->Q (.ref a) (upd H a (V7 a (met (fun i=>ts.getD i "") ts.length).length))):=by
 intro pins s σ H xs us Q I r h;obtain ⟨l,ts,rfl,hS,hl,q⟩:=h;obtain ⟨u,rfl,ru⟩:=XO r;obtain rfl:u=Value.ref l:=ru;obtain ⟨its,r',pl,hz⟩:=I.list hS;have hlen:ts.length=its.length:=by rw [<- r'.length,List.length_map]
 refine YcK (val:=fun i=>ts.getD i "") (I.ok.hd hc) pl.isList (fun i v hv=>?_) (by unfold scanBound;simp only [List.size_toArray];omega) fun h' tk hS hk=>?_
 ·have hv':its[i]?=some v:=by simpa using hv
  have hi:=(List.getElem?_eq_some_iff.mp hv').1;have ht:(ts.map V.str)[i]?=some (.str (ts.getD i "")):=by
   rw [List.getElem?_map,List.getD_eq_getElem?_getD,List.getElem?_eq_getElem (by omega)];rfl
  obtain ⟨v2,e2,rv⟩:=r'.get ht;rw [hv'] at e2
  cases e2
  exact rv
 ·rw [show its.toArray.size=ts.length by simp [hlen]] at hS
  refine ⟨.ref s.heap.objs.size,_,I.laid (o:=V7 s.heap.objs.size _) (fun b o e=>hk b o (Heap.lt_size e) e) (Nat.le_refl _) ?_,rfl,q _ (I.hok.fresh (Nat.le_refl _))⟩;obtain ⟨o,es,ep,tb,ho,hex,hd,_,_,hb,hf,hn⟩:=hS;exact ⟨⟨o,es,ep,tb,ho,hex,hd,hf,hn,by omega⟩,⟨o,ho⟩,fun h1 h2 p k=>by obtain ⟨o,es,ep,tb,ho,z⟩:=p;exact ⟨o,es,ep,tb,k o ho,z⟩⟩
end
open Sem (wp)
theorem G9 (a:Array Nat):∀ (n:Nat) (b:Array Nat),((List.replicate n a).foldl (·++·) b).toList=b.toList++(List.replicate n a.toList).flatten
 | 0,b=>by simp
 | n+1,b=>by
  rw [List.replicate_succ,List.foldl_cons,G9 a n,List.replicate_succ,List.flatten_cons,Array.toList_append,List.append_assoc]
section
variable {X:Cx}
theorem Q6:cR X (binaryOp .Mult) (fun x y H Q=>∃ (z:Str) (n:Int),x = .str z/\y = .int n/\0<=n/\n<=100000/\z.length<=10/\∀ r:Str,r.cps.toList=(List.replicate n.toNat z.cps.toList).flatten->Q (.str r) H):=by
 intro pins s σ H x y v u Q I rx ry h;obtain ⟨z,n,rfl,rfl,h0,h1,hz,q⟩:=h;obtain ⟨t,rfl⟩:=rx;obtain ⟨t',rfl⟩:=ry;have hm:z.length*n.toNat<=1000000:=by
  have a1:n.toNat<=100000:=by omega
  calc z.length*n.toNat<=10*100000:=Nat.mul_le_mul hz a1
   _=1000000:=rfl
 have big:1000000<=sizeLine:=by decide
 refine PySem.P.mul_str ?_ ?_ ?_ ?_
 ·rw [decide_eq_false (by omega),decide_eq_false (by omega)];rfl
 ·intro a b c
  have:(10:Int)<=(2^63 - 1) / n:=by
   rw [Int.le_ediv_iff_mul_le (by omega)];have:(10:Int)*n<=1000000:=by omega
   exact Int.le_trans this (by decide)
  omega
 ·intro a b
  unfold Builtin.Str.tooLong;exact decide_eq_false (by omega)
 ·by_cases a:n<1
  ·rw [if_pos a]
   have e:n=0:=by omega
   subst e;exact ⟨by decide,.str Str.empty,H,I.tok _,⟨_,rfl⟩,q _ rfl⟩
  ·rw [if_neg a]
   by_cases b:(n==1||z.length==0)=true
   ·rw [if_pos b]
    refine ⟨.str z,H,I,⟨t,rfl⟩,q z ?_⟩;rcases (Bool.or_eq_true _ _).mp b with b | b
    ·have e:n=1:=by simpa using b
     subst e;simp
    ·have e0:z.cps.size=0:=by simpa [Str.length] using b
     have e:z.cps.toList=[]:=List.eq_nil_of_length_eq_zero (by rw [Array.length_toList,e0]);rw [e];simp
   ·rw [if_neg b]
    have hs:=G5 z.cps n.toNat #[];have hl:(({ cps:=List.foldl (fun x1 x2=>x1++x2) #[] (List.replicate n.toNat z.cps) }:Str)).length=z.length*n.toNat:=by
     show (List.foldl (fun x1 x2=>x1++x2) #[] (List.replicate n.toNat z.cps)).size=z.length*n.toNat
     rw [hs,Nat.mul_comm]
     show 0+z.cps.size*n.toNat=z.cps.size*n.toNat
     omega
    refine ⟨by rw [hl];omega,.str _,H,I.tok _,⟨_,rfl⟩,q _ ?_⟩;have:=G9 z.cps n.toNat #[];simpa using this
end
end L2
namespace L2
open PySem PySem.Spec PyProof.Rows PySem.Builtin.Str
section
variable {X:Cx}
def Cq:V->List V->Hp->VK->Prop:=fun x vs H Q=>∃ (l:List Nat) (c:Nat),x = .str (S l)/\vs=[.str (S [c])]/\l.length<=100000/\∀ p,H p=none->(c∉l->Q (.ref p) (upd H p (.tup [.str (S l),.str (S []),.str (S [])])))/\(∀ a b,c∉a->l=a++c::b->Q (.ref p) (upd H p (.tup [.str (S a),.str (S [c]),.str (S b)])))
theorem Inv.sy {pins:List (Addr×Obj)} {σ:St} {H:Hp} {s:Shared} {ys:List V} {its:List Value} {t':Nat} (I:Inv X pins σ H s) (hv:Yu ys its) (hz:ys.length<=sizeLine) :
  Inv X pins σ (upd H s.heap.objs.size (.tup ys)) { s with heap:=s.heap.push { cls := .type "tuple",data := .seq its.toArray },toks:=t' } :=
 I.laid (fun _ _ q=>Heap.get?_push_of_some _ q) (Nat.le_refl _) (show YS X.prog X.w _ _ _ (.tup ys) from ⟨hz,its,hv,IsTup.new _ _⟩)
theorem QH (l:List Nat) (i j:Nat):strSub (S l) i j=S ((l.drop i).take (j - i)):=by
 have h:=StrLaws.strSub_toList (S l) i j;rw [YZ] at h
 have e:∀ x:Str,x=S x.cps.toList:=fun x=>by unfold S;simp
 rw [e (strSub (S l) i j),h]
theorem UA:nj X "str.partition" Cq:=by
 intro pins s σ H x vs v us Q I rx r h;obtain ⟨l,c,rfl,rfl,hl,q⟩:=h;obtain ⟨t,rfl⟩:=rx;obtain ⟨u,rfl,ru⟩:=XO r;obtain ⟨t',rfl⟩:=ru;have big:100000<=sizeLine:=by decide
 have hsz:(S l).length<=sizeLine:=by rw [Ys];omega
 obtain ⟨q0,q1⟩:=q _ (I.hok.fresh (Nat.le_refl _));refine call_meets F.slot_str_partition (typeIs_str s (S l) t) F.entry_str_partition (F.args_str_partition_2 _ _) (meets_str_partition (S l) (S [c]) t t' rfl hsz) ?_;rcases StrLaws.occ_head (S l) ⟨#[c]⟩ 1 (Nat.le_refl 1) with ⟨h0,hn⟩ | ⟨i,r,h0,hi,hn⟩
 ·have hfree:c∉l:=fun hm=>by
   obtain ⟨j,hj⟩:=List.getElem?_of_mem hm;exact hn j ((StrLaws.subAt_one (S l) c j).mpr (by rw [YZ];exact hj))
  rw [show S [c]=⟨#[c]⟩ from rfl,h0];exact ⟨.ref s.heap.objs.size,_,Inv.sy (ys:=[V.str (S l),V.str (S []),V.str (S [])]) I (.cons ⟨t,rfl⟩ (.cons ⟨_,rfl⟩ (.cons ⟨_,rfl⟩ .nil))) (by show 3<=sizeLine;decide),rfl,q0 hfree⟩
 ·have hm:=(StrLaws.subAt_one (S l) c i).mp hi
  rw [YZ] at hm
  have hlt:=(List.getElem?_eq_some_iff.mp hm).1;have e:l=l.take i++c::l.drop (i+1):=by
   have h1:l.drop i=c::l.drop (i+1):=by
    rw [List.drop_eq_getElem_cons hlt,(List.getElem?_eq_some_iff.mp hm).2]
   rw [<- h1,List.take_append_drop]
  have hfree:c∉l.take i:=fun hc=>by
   obtain ⟨j,hj⟩:=List.getElem?_of_mem hc;have hji:=(List.getElem?_eq_some_iff.mp hj).1;rw [List.length_take] at hji
   rw [List.getElem?_take_of_lt (by omega)] at hj
   exact hn j (by omega) ((StrLaws.subAt_one (S l) c j).mpr (by rw [YZ];exact hj))
  have e1:strSub (S l) 0 i=S (l.take i):=by rw [QH];simp
  have e2:strSub (S l) (i+(S [c]).length) (S l).length=S (l.drop (i+1)):=by
   rw [QH,Ys,Ys]
   congr 1
   exact List.take_of_length_le (by simp)
  rw [show S [c]=⟨#[c]⟩ from rfl] at e2 ⊢
  rw [h0];dsimp only;rw [e1,e2];refine ⟨.ref s.heap.objs.size,_,Inv.sy (ys:=[V.str (S (l.take i)),V.str (S [c]),V.str (S (l.drop (i+1)))]) I (.cons ⟨_,rfl⟩ (.cons ⟨t',rfl⟩ (.cons ⟨_,rfl⟩ .nil))) (by show 3<=sizeLine;decide),rfl,q1 _ _ hfree e⟩
end
end L2
namespace L2
open PySem PySem.Spec PyProof.Rows
section
variable {X:Cx}
theorem YfO {i:Nat} {x:Str} {pos' apos:Pos} {elt tg iter:Expr} {ifs:List Expr} {scope:Scope} {pos:Pos} {src:List (Option Nat)} {N':List Str} {wi:TI} {g:TG} {tt:TT} {te:TE} {E:XK} (hN:X.N.Nodup) (hix:X.N[i]?=some x) (hlx:Loc X.env.scope x) (hL:UY X E) (hcap:iu X scope src N') (hc:X.calm=true) (hi:PI X tg iter wi)
  (hg:∀ cl C s₀ H₀ fp pn,PG (cP X scope N' cl C s₀ H₀ fp pn) tg g) (ht:∀ cl C s₀ H₀ fp pn,lF (cP X scope N' cl C s₀ H₀ fp pn) ifs tt) (he:∀ cl C s₀ H₀ fp pn,PE (qL X E scope N' cl C s₀ H₀ fp pn) elt te)
  (hfree:∀ x,(x,NameKind.free)∈scope.names->X.env.scope.names.lookup x=some NameKind.cell\/X.env.scope.names.lookup x=some NameKind.free)
  (hk:scope.kind = .function:=by rfl) (hcell:∀ y∈scope.names,y.2 ≠ .cell:=by decide) (hnames:∀ y∈scope.names,y.2 = .local->scope.names.lookup y.1=some .local:=by decide +kernel)
  (hs:∀ x,foldedSetIterable iter X.env x=pure x:=by intro _;rfl) (hsw:swapsWithSole [.Name x pos'] (.ListComp elt [⟨tg,iter,ifs,0⟩] scope pos) apos.line X.env=pure true:=by rfl) (hf:X.fn x=true\/X.env.scope.names.lookup x=some .local:=by first | exact .inl rfl | exact .inr rfl | assumption) :
  PS X (.Assign [.Name x pos'] (.ListComp elt [⟨tg,iter,ifs,0⟩] scope pos) apos) (oX (iT src wi g tt te) (YD i)):=by
 intro pins s σ H D0 I h;obtain ⟨cl,hcl,a,b⟩:=W9 X.env scope fun x hx=>I.ok.has x (hfree x hx)
 rw [exec_Assign_arm];refine wpAny_bind (wpAny_standAt ?_);rw [hsw];refine wpAny_bind (wpAny_pure ?_);rw [if_pos rfl];refine wpAny_bind ?_;rw [arm_evalThenUse_ListComp];refine wpAny_bind ?_;refine wpAny_comprehension_free (use:=some _) rfl hs hcl hk hnames (aB (hi pins s σ H _ I h) fun v s1 h1=>aB h1 fun itv s2 h2=>?_);exact V5 (Po:=fun v C=>compPost (model X.prog X.w) X.A X.xe (some fun v=>assignAll v ((assignEach [.Name x pos'] X.env).map (·.2))) (fun _ s'=>wpAny (model X.prog X.w) X.A (pure PUnit.unit) (fun _ s'=>wpAny (model X.prog X.w) X.A (pure Flow.next) (SP X pins D0) X.xe s') X.xe s') v C) (Z:=fun C s₀ H₀ fp pn e s'=>∃ pins σ H s,Inv (cP X scope N' cl C s₀ H₀ fp pn) pins σ H s/\iD X.prog X.w X.stack H s E e s') hcap hc (hg cl) (ht cl) (he cl) hk hcell a b h2 (Gp hN hix hlx hf) (G7 (use:=none) (P:=fun _ _=>True) hL)
end
end L2
namespace PySem.W
open PySem PyProof.Rows
open Builtin Builtin.ObjectAttr
section
variable {prog:Program} {w:World} {A:Around} {E:Value->Shared->Prop} {hh:Heap} {g:Array GenState} {d:Drawn} {t:Nat} {os:OsState} {K:Frag} {x C D:Addr} {ox:Obj} {mA:Str->Option Value} {f:Str} {v:Value}
theorem YcL {tk:Tok} {Q:Fin->Shared->Prop} (In:K.In hh) (hd:hasDictIn K C=true) (hx:hh.get? x=some ox) (hc:ox.cls = .ref C) (hnc:∀ c,ox.data ≠ .cls c) (hdc:ox.dict=some D) (hns:hh.Ns D mA) (hv:mA f=some v) (ha:findIn K (.ref C) f=some none)
  (hq:Q (.done (.ret v)) ⟨hh,g,d,t,os⟩):wpAny (model prog w) A (Builtin.«object.__getattribute__» ⟨[.ref x,.str f tk],[]⟩) Q E ⟨hh,g,d,t,os⟩:=by
 have L3:=looks_findIn (M:=model prog w) In ha;unfold Builtin.«object.__getattribute__»
 repeat (any_goals (first | assumption | (with_reducible refine wpAny_loadPart_at hx ?_;rw [hc]) | with_reducible refine L3.at ?_ | wp_step))
 obtain ⟨cd,e,hcd⟩:=any_some hd;have L4:=looks_clsIn (M:=model prog w) In e
 split
 ·rename_i c Oz
  exact absurd Oz (hnc c)
 unfold instanceDict
 repeat (any_goals (first | assumption | (with_reducible refine wpAny_loadPart_at hx ?_;simp only [hc]) | with_reducible refine L4.at ?_ | wp_step))
 rw [hdc]
 repeat (any_goals (first | assumption | (with_reducible refine wpAny_nsGet hns ?_;rw [hv]) | wp_step))
theorem YdU {tk:Tok} {R:Result->Shared->Prop} (In:K.In hh) (hd:hasDictIn K C=true) (hx:hh.get? x=some ox) (hc:ox.cls = .ref C) (hnc:∀ c,ox.data ≠ .cls c) (hdc:ox.dict=some D) (hns:hh.Ns D mA) (hv:mA f=some v) (hb:mroIn K C (.type "BaseException")=some true) (ha:findIn K (.ref C) f=some none)
  (hq:R (.ok (.ret v)) ⟨hh,g,d,t,os⟩):codeAny (model prog w) A (.call (.builtin "BaseException.__getattribute__") ⟨[.ref x,.str f tk],[]⟩) R ⟨hh,g,d,t,os⟩ :=
 codeAny_call_builtin (by decide +kernel) F.entry_bexc_ga (Qh In hx hc hb (YcL In hd hx hc hnc hdc hns hv ha hq))
theorem oG {b:Bool} {Q:Value->Shared->Prop} (In:K.In hh) (hd:hasDictIn K C=true) (hx:hh.get? x=some ox) (hc:ox.cls = .ref C) (hnc:∀ c,ox.data ≠ .cls c) (hdc:ox.dict=some D) (hns:hh.Ns D mA) (hv:mA f=some v) (hh':handedOut v=pure v) (hb:mroIn K C (.type "BaseException")=some true) (ha:findIn K (.ref C) f=some none)
  (hga:findIn K (.ref C) "__getattribute__"=some (some (.builtin "BaseException.__getattribute__"))) (hgt:findIn K (.ref C) "__getattr__"=some none) (hq:Q v ⟨hh,g,d,t+1,os⟩) :
  wpAny (model prog w) A (getAttr (.ref x) f b) Q E ⟨hh,g,d,t,os⟩:=by
 have hbd:=Gz (.ref x);have e2:(Value.builtin "BaseException.__getattribute__"==Value.builtin "object.__getattribute__")=false:=by decide +kernel
 have e1:(onTheHeap (Value.ref C)&&Value.builtin "BaseException.__getattribute__"==Value.builtin "object.__getattribute__")=false:=by rw [e2];rfl
 have L1:=looks_findIn (M:=model prog w) In hga;have L2:=looks_findIn (M:=model prog w) In hgt;unfold getAttr getAttrBy
 repeat (any_goals (first | assumption | (with_reducible refine wpAny_loadPart_at hx ?_;rw [hc]) | with_reducible refine L1.at ?_ | with_reducible refine L2.at ?_ | wp_step))
 have e0:(b&&onTheHeap (Value.builtin "BaseException.__getattribute__"))=false:=by cases b<;>rfl
 rw [if_neg (by rw [e0];decide)];unfold boundAndCalled
 repeat (any_goals (first | assumption | wp_step))
 refine YdU In hd hx hc hnc hdc hns hv hb ha ?_
 repeat (any_goals (first | assumption | wp_step))
end
section
variable {prog:Program} {w:World} {A:Around} {E:Value->Shared->Prop} {s:Shared} {K:Frag} {x C C' D:Addr} {ox:Obj} {od:Option Obj} {mA:Str->Option Value} {name:Str} {v:Value} {R:Result->Shared->Prop}
def jo (K:Frag) (C C':Addr):Bool:=(clsIn K C).any fun cd=>cd.mro==[.ref C,.ref C',.type "ValueError",.type "Exception",.type "BaseException",.type "object"]
theorem QI {tk:Tok} (X:K.In s.heap) (I:InstAt s.heap x ox C od) (hm:jo K C C'=true) (ha:findIn K (.ref C) name=some none)
  (h:wpAny (model prog w) A.in1 (storeInOwnDict (.ref x) (.ref C) (.str name tk) name v false)
   (fun fin s'=>match fin with | .done f=>R (.ok f) s' | .again c'=>c'.quiet=true/\codeAny (model prog w) A c' R s') (fun e s'=>R (.error e) s') s) :
  codeAny (model prog w) A (.call (.builtin "object.__setattr__") ⟨[.ref x,.str name tk,v],[]⟩) R s:=by
 have SF:=PySem.F.store_object;obtain ⟨cd,hc,ho⟩:=any_some hm;have ho:=eq_of_beq ho;have sub:Looks (model prog w) s.heap (isInstance (.ref x) (.type "object")) true:=I.type.andThen (looks_mroIn X (by unfold mroIn;rw [hc,Option.bind_some,ho];rfl));refine codeAny_call_builtin SF.slot.plain SF.entry (@check_slot (model prog w) _ _ s "object.__setattr__" "object" "__setattr__" (.ref x) [.str name tk,v] [] _ SF.kind SF.split sub (SF.args (.ref x) (.str name tk) v) ?_);have hmro:Looks (model prog w) s.heap (mroOf (.ref C)) cd.mro:=(looks_clsIn X hc).andThen .now;rw [osa_eq,refuse_eq];refine wpAny_bind (wpAny_bind (I.type.here (wpAny_bind (hmro.here ?_))));rw [ho,refuseLoop_ref,refuseLoop_ref,PySem.F.store_ValueError.passes];refine wpAny_pure (wpAny_bind (I.type.here (wpAny_bind ((looks_findIn X ha).here (wpAny_bind (wpAny_pure ?_))))));exact h
end
section
variable {prog:Program} {w:World} {A:Around} {E:Value->Shared->Prop} {s:Shared} {K:Frag} {x C C' D:Addr} {ox:Obj} {od:Option Obj} {mA:Str->Option Value} {name:Str} {v:Value} {vs:Array Value} {Q:Unit->Shared->Prop}
theorem Hf (hf:ox.data = .fields vs):notCls ox=true:=by unfold notCls;rw [hf]
theorem oH {ns:List Str} (X:K.In s.heap) (hx:s.heap.get? x=some ox) (hc:ox.cls = .ref C) (hf:ox.data = .fields vs) (hdc:ox.dict=some D) (hn:s.heap.Ns1 D mA) (hne:D≠x) (hd:hasDictIn K C=true) (hm:jo K C C'=true) (ha:findIn K (.ref C) name=some none)
  (hs:findIn K (.ref C) "__setattr__"=some (some (.builtin "object.__setattr__"))) (hw:PySem.Within mA ns) (hsz:ns.length<=sizeLine)
  (h:∀ h',h'.Ns1 D (fun y=>if y=name then some v else mA y)->Heap.SameBut D s.heap h'->Q () { s with heap:=h',toks:=s.toks+2 }):wpAny (model prog w) A (setAttr (.ref x) name v) Q E s:=by
 obtain ⟨oD,_,_,OD,_⟩:=id hn;have J:InstAt s.heap x ox C (some oD):=⟨hx,hc,Hf hf,by rw [hdc];exact OD⟩;refine set_plain X J hs (QI (s:={ s with toks:=s.toks+1 }) (C':=C') X J hm ha ?_);obtain ⟨cd,hcd,hd'⟩:=any_some hd;refine wpAny_bind (wpAny_pure (wpAny_bind (wpAny_bind (wpAny_loadPart hx ?_))));simp only [hc];refine wpAny_bind (Looks.here (s:={ s with toks:=s.toks+1 }) (looks_clsIn X hcd) ?_);rw [hd',hdc];refine wpAny_pure (a:=some D) (wpAny_bind (wpAny_pure (wpAny_bind ?_)));refine wpAny_nsSet1 (s:={ s with toks:=s.toks+1 }) hn fun h' hn2 hs2=>?_
 obtain ⟨oD,esD,epD,hoD,hdD,hcD⟩:=hn2.count (PySem.Within.cons name v hw);refine wpAny_bind (wpAny_lookBehind hoD (by rw [hdD];exact pastItsLine_dict (Nat.le_trans hcD (by rw [List.length_cons];omega))) ?_);exact wpAny_pure (h _ hn2 hs2)
theorem pG (X:K.In s.heap) (hx:s.heap.get? x=some ox) (hc:ox.cls = .ref C) (hf:ox.data = .fields vs) (hdc:ox.dict=none) (hd:hasDictIn K C=true) (hm:jo K C C'=true) (ha:findIn K (.ref C) name=some none)
  (hs:findIn K (.ref C) "__setattr__"=some (some (.builtin "object.__setattr__")))
  (h:∀ h',h'.Ns1 s.heap.objs.size (fun y=>if y=name then some v else none)->h'.get? x=some { ox with dict:=some s.heap.objs.size }->(∀ b o,b≠x->s.heap.get? b=some o->h'.get? b=some o)->Q () { s with heap:=h',toks:=s.toks+2 }):wpAny (model prog w) A (setAttr (.ref x) name v) Q E s:=by
 have J:InstAt s.heap x ox C none:=⟨hx,hc,Hf hf,by rw [hdc];exact True.intro⟩;refine set_plain X J hs (QI (s:={ s with toks:=s.toks+1 }) (C':=C') X J hm ha ?_);obtain ⟨cd,hcd,hd'⟩:=any_some hd;refine wpAny_bind (wpAny_pure (wpAny_bind (wpAny_bind (wpAny_loadPart hx ?_))));simp only [hc];refine wpAny_bind (Looks.here (s:={ s with toks:=s.toks+1 }) (looks_clsIn X hcd) ?_);rw [hd',hdc,hf];rw [if_neg (by decide)];dsimp only;rw [if_neg (by simp [typeHasDict])];have hx₁:(s.heap.push { cls := .type "dict",data := .dict #[] }).get? x=some ox:=Heap.get?_push_of_some _ hx;have hxs:x≠s.heap.objs.size:=Nat.ne_of_lt (Heap.lt_size hx);refine wpAny_bind (wpAny_alloc' (wpAny_bind (wpAny_update' hx₁ (wpAny_pure ?_))));generalize hH:(s.heap.push { cls := .type "dict",data := .dict #[] }).update x (fun o=>{ cls:=o.cls,dict:=some s.heap.objs.size,data:=o.data,slots:=o.slots })=H2;have hgd:H2.get? s.heap.objs.size=some { cls := .type "dict",data := .dict #[] }:=by
  rw [<- hH];exact (Heap.get?_update_ne _ _ _ _ hxs.symm).trans (Heap.get?_push_at rfl rfl)
 have hx2:H2.get? x=some { cls:=ox.cls,dict:=some s.heap.objs.size,data:=ox.data,slots:=ox.slots }:=by
  rw [<- hH];refine Heap.get?_update_self _ hx₁ ?_;have hfr:=(Heap.get?_some_iff.mp hx).2;obtain ⟨oc,od,odt,osl⟩:=ox
  cases odt<;>first | rfl | exact hfr
 have hko:∀ b o,b≠x->s.heap.get? b=some o->H2.get? b=some o:=fun b o hb e=>by
  rw [<- hH];exact (Heap.get?_update_ne _ _ _ _ hb).trans (Heap.get?_push_of_some _ e)
 have hnd:H2.Ns s.heap.objs.size (fun _=>none):=⟨_,#[],_,hgd,rfl,fun e he=>absurd he (by simp),fun _=>rfl⟩;refine wpAny_bind (wpAny_pure (wpAny_bind ?_));refine wpAny_nsSet1 (s:={ s with heap:=H2,toks:=s.toks+1 }) (Heap.Ns1.of_empty hnd) fun h' hn2 hs2=>?_
 obtain ⟨oD,esD,epD,hoD,hdD,hcD⟩:=hn2.count (PySem.Within.cons name v PySem.Within.nil);refine wpAny_bind (wpAny_lookBehind hoD (by rw [hdD];exact pastItsLine_dict (Nat.le_trans hcD (by rw [List.length_cons,List.length_nil,sizeLine_eq];omega))) ?_);exact wpAny_pure (h _ hn2 ((hs2.2 x hxs).trans hx2) fun b o hb e=>(hs2.2 b (Nat.ne_of_lt (Heap.lt_size e))).trans (hko b o hb e))
end
end PySem.W
namespace PySem.W
open PySem PyProof.Rows
theorem YdV {K:Frag} {h:Heap} {N:Addr} {mg:Str->Option Value} {n:Str} {v:Value} (X:K.In h) (G:h.Ns N mg) (e:nsIn K N n=some (some v)):mg n=some v:=by
 obtain ⟨o,es,ep,ho,hd,_,hf⟩:=G;unfold nsIn at e
 split at e
 ·rename_i c d es' n' sl q
  have:=X _ _ q;rw [ho] at this
  cases this
  cases hd
  split at e
  ·rename_i he
   rw [<- hf];unfold nsFind findBy;rw [<- Array.find?_toList,he]
   cases e
   rfl
  ·split at e<;>cases e
 ·cases e
def iU (K:Frag) (C:Addr) (tl:List Value) (nw:String) (f:Addr):Bool:=match K.lookup C with
 | some ⟨.type "type",_,.cls cd,sl⟩=>(match cd.mro,sl.toList with
  | .ref c::bm,[_,_,_,_,some (.builtin n),_]=>(c==C&&n==nw)&&((!cd.hasDel&&tailIn K tl bm)&&(nsOkIn K cd.ns&&nsIn K cd.ns "__init__"==some (some (.ref f))))
  | _,_=>false)
 | _=>false
theorem iY {K:Frag} {h:Heap} {C f:Addr} {tl:List Value} {nw:String} (In:K.In h) (q:iU K C tl nw f=true) :
  ∃ (bm:List Value) (ns:Addr) (nm qn:Str) (bs:List Value) (hd:Bool) (sn:List Str) (sub:List Value) (ab:Bool) (col:Option Bool) (dd:Option Addr) (k0 k1 k2 k3 k5:Option Value) (mN:Str->Option Value),
   h.get? C=some (excClassObj nm qn C ns bs bm hd sn sub ab col dd k0 k1 k2 k3 k5 nw)/\h.Ns ns mN/\mN "__init__"=some (.ref f)/\OwnTail h tl bm:=by
 unfold iU at q
 split at q
 case h_2=>exact absurd q (by decide)
 case h_1 dd cd sl lk =>
  split at q
  case h_2=>exact absurd q (by decide)
  case h_1 c2 bm k0 k1 k2 k3 n k5 em es =>
   simp only [beq_iff_eq,Bool.and_eq_true,Bool.not_eq_true'] at q;obtain ⟨⟨q1,q2⟩,⟨q3,q4⟩,q5,q6⟩:=q;obtain ⟨nm,bs,mro,ns,qn,hd,sn,sub,ab,col,del⟩:=cd;obtain ⟨lst⟩:=sl;dsimp only at em q3 q5 q6 es;subst q1 q2 em q3 es;have hN:h.Ns ns _ := .of_isNs (isNs_of_in In q5);exact ⟨bm,ns,nm,qn,bs,hd,sn,sub,ab,col,dd,k0,k1,k2,k3,k5,_,In _ _ lk,hN,YdV In hN q6,tail_of_in In q4⟩
abbrev VB (a0:Value):Array Value:=#[a0,.none,.none,.none,.bool false,.none]
section
variable {prog:Program} {w:World} {A:Around} {E:Value->Shared->Prop} {h:Heap} {g:Array GenState} {d:Drawn} {t:Nat} {os:OsState}
variable {nm q:Str} {C N:Addr} {bs bm bmB:List Value} {hdct:Bool} {sn:List Str} {sub:List Value} {ab:Bool} {col:Option Bool} {dd:Option Addr} {k0 k1 k2 k3 k5:Option Value} {B newId initId:String}
theorem YaV (F:ExcBaseFacts B newId initId bmB) (T:OwnTail h bmB bm) {mN:Str->Option Value} {Y7:List Value} {fI:Addr} {oI:Obj} {Q:Fin->Shared->Prop}
  (hC:h.get? C=some (excClassObj nm q C N bs bm hdct sn sub ab col dd k0 k1 k2 k3 k5 newId)) (hn:h.Ns N mN) (hi:mN "__init__"=some (.ref fI))
  (hfI:h.get? fI=some oI) (hfc:oI.cls = .type "function")
  (hq:∀ h' e,Heap.MadeExcOf h h' e (.ref C) Y7->e=h.objs.size+1 ->
   wpAny (model prog w) A (call (.ref fI) (.ref e::Y7)) (fun r s'=>r = .none/\Q (.done (.ret (.ref e))) s') E ⟨h',g,d,t,os⟩) (hrest:Y7.length<=sizeLine) :
  wpAny (model prog w) A (Builtin.«type.__call__» ⟨.ref C::Y7,[]⟩) Q E ⟨h,g,d,t,os⟩:=by
 repeat (first | with_reducible refine wpAny_loadPart_at hC ?_ | with_reducible refine wpAny_madeBy_exc hC ?_ | wp_step)
 refine codeAny_call_builtin_code (Code.quiet_builtin _ F.quiet) (wpAny_check_new_subT F T hC ?_);refine codeAny_exc_new_subT F T hC ?_ hrest
 show wpAny _ _ _ _ _ _
 have keep:∀ b o,h.get? b=some o->((h.push { cls := .type "tuple",data := .seq Y7.toArray }).push { cls := .ref C,data := .fields #[.ref h.objs.size,.none,.none,.none,.bool false,.none] }).get? b=some o :=
  fun b o e=>Heap.get?_push_of_some _ (Heap.get?_push_of_some _ e)
 have hget:((h.push { cls := .type "tuple",data := .seq Y7.toArray }).push
   { cls := .ref C,data := .fields #[.ref h.objs.size,.none,.none,.none,.bool false,.none] }).get? (h.objs.size+1)=some
   { cls := .ref C,data := .fields #[.ref h.objs.size,.none,.none,.none,.bool false,.none] }:=by heap_get
 have hC₁:=keep _ _ hC;have hn₁:=hn.keeps keep;have hcC:(Value.ref C::bm).contains (.ref C)=true:=by simp
 have T₁:=T.keeps keep;unfold isInstance
 repeat (first | with_reducible refine wpAny_loadPart_at hget ?_ | (with_reducible refine wpAny_isSubtype_exc hC₁ ?_;rw [hcC]) | wp_step)
 show wpAny _ _ (typeLookup (.ref C) _) _ _ _
 refine wpAny_typeLookup_tail hC₁ hn₁ T₁ F.mroIs F.init.lookup ?_;rw [hi];refine wpAny_holding (wpAny_bind ?_);unfold bindSpecial;refine wpAny_bind (wpAny_typeOf (T:="function") ⟨_,keep _ _ hfI,hfc⟩ ?_);rw [if_pos (by decide)];refine wpAny_pure (wpAny_bind (wpAny_mono (hq _ (h.objs.size+1) ⟨keep,Heap.get?_none_of_le (Nat.le_succ _),h.objs.size,hget,Heap.get?_none_of_le (Nat.le_refl _),?_⟩ rfl) (fun r s' hr=>?_) fun _ _ x=>x))
 ·exact Heap.get?_push_of_some _ (Heap.get?_push_at rfl rfl)
 ·obtain ⟨rfl,hQ⟩:=hr
  wp_walk
  exact hQ
theorem kY (F:ExcBaseFacts B newId initId bmB) (T:OwnTail h bmB bm) {mN:Str->Option Value} {Y7:List Value} {fI:Addr} {oI:Obj} {Q:Value->Shared->Prop}
  (hC:h.get? C=some (excClassObj nm q C N bs bm hdct sn sub ab col dd k0 k1 k2 k3 k5 newId)) (hn:h.Ns N mN) (hi:mN "__init__"=some (.ref fI))
  (hfI:h.get? fI=some oI) (hfc:oI.cls = .type "function")
  (hq:∀ h' e,Heap.MadeExcOf h h' e (.ref C) Y7->e=h.objs.size+1 ->
   wpAny (model prog w) (A.under (.builtin "type.__call__" ⟨.ref C::Y7,[]⟩)) (call (.ref fI) (.ref e::Y7)) (fun r s'=>r = .none/\Q (.ref e) s') E ⟨h',g,d,t,os⟩) (hrest:Y7.length<=sizeLine) :
  wpAny (model prog w) A (call (.ref C) Y7) Q E ⟨h,g,d,t,os⟩:=by
 have f1:=tc_lookup;have f2:=tc_bind (.ref C);have hT:(⟨h,g,d,t,os⟩:Shared).TypeIs (.ref C) "type":=⟨_,hC,rfl⟩;refine wpAny_call (codeAny_of_tree ?_)
 show wpAny _ _ (callAny (.ref C) _) _ _ _
 repeat (any_goals (first | assumption | with_reducible refine wpAny_loadPart_at hC ?_ | wp_step))
 refine ⟨rfl,?_⟩;exact codeAny_call_builtin_at (Code.quiet_builtin _ (by decide +kernel)) entry_typeCall (wpAny_check_type_call_sub hC (YaV F T hC hn hi hfI hfc (fun h' e hm he=>hq h' e hm he) hrest))
theorem kZ (F:ExcBaseFacts B newId initId bmB) (T:OwnTail h bmB bm) {e:Addr} {dc:Option Addr} {sl:Array (Option Value)} {t0:Addr} {m:Value} {Q:Value->Shared->Prop}
  (hC:h.get? C=some (excClassObj nm q C N bs bm hdct sn sub ab col dd k0 k1 k2 k3 k5 newId)) (he:h.get? e=some ⟨.ref C,dc,.fields (VB (.ref t0)),sl⟩)
  (hq:∀ h' T,h'.get? e=some ⟨.ref C,dc,.fields (VB (.ref T)),sl⟩->(∀ b o,b≠e->h.get? b=some o->h'.get? b=some o)->Q .none ⟨h',g,d,t,os⟩) :
  wpAny (model prog w) A (call (.builtin initId) [.ref e,m]) Q E ⟨h,g,d,t,os⟩:=by
 refine wpAny_call (codeAny_call_builtin F.init.plain F.initEntry (wpAny_check_init_subT F T hC he rfl ?_));have he1:(h.push { cls := .type "tuple",data := .seq [m].toArray }).get? e=some ⟨.ref C,dc,.fields (VB (.ref t0)),sl⟩:=Heap.get?_push_of_some _ he
 wp_walk
 refine hq _ h.objs.size ((Heap.get?_update_self _ he1 rfl).trans rfl) fun b o hb eb=>?_
 exact (Heap.get?_update_other _ _ (Ne.symm hb)).trans (Heap.get?_push_of_some _ eb)
end
section
variable {M:Model} {A:Around} {E:Value->Shared->Prop} {env:Env}
variable {nm q:Str} {C N:Addr} {bs bm bmB:List Value} {hdct:Bool} {sn:List Str} {sub:List Value} {ab:Bool} {col:Option Bool} {dd:Option Addr} {k0 k1 k2 k3 k5:Option Value} {B newId initId:String}
theorem VU {s:Shared} {x:Sem Value} {Q:Flow->Shared->Prop} (hbase:bm.contains (.type "BaseException")=true) (hh:A.handled=none)
  (h:wpAny M A x (fun v s₁=>∃ e dc t0 sl,v = .ref e/\s₁.heap.get? C=some (excClassObj nm q C N bs bm hdct sn sub ab col dd k0 k1 k2 k3 k5 newId)/\s₁.heap.get? e=some ⟨.ref C,dc,.fields (VB (.ref t0)),sl⟩/\E (.ref e) s₁) E s) :
  wpAny M A (raiseStmt env (some x) none) Q E s:=by
 have hcB:(Value.ref C::bm).contains (.type "BaseException")=true:=by rw [List.contains_cons,hbase,Bool.or_true]
 unfold raiseStmt;refine wpAny_bind (wpAny_mono h (fun v s₁ h₁=>?_) fun _ _ x=>x);obtain ⟨e,dc,t0,sl,rfl,hC,he,hE⟩:=h₁;obtain ⟨hp,g,d,tk,os⟩:=s₁
 repeat (first | with_reducible refine wpAny_loadPart_at he ?_ | with_reducible refine wpAny_loadPart_at hC ?_ | (with_reducible refine wpAny_isSubtype_exc hC ?_;rw [hcB]) | wp_step)
 exact wpAny_raiseNew_none hh hE
end
section
variable {prog:Program} {w:World} {A:Around} {E:Value->Shared->Prop} {s:Shared} {env:Env}
variable {nm q:Str} {C N:Addr} {bs bm bmB:List Value} {hdct:Bool} {sn:List Str} {sub:List Value} {ab:Bool} {col:Option Bool} {dd:Option Addr} {k0 k1 k2 k3 k5:Option Value} {B newId initId:String}
theorem jX {x:Str} {np cpos pos:Pos} {args:List Expr} {Q:Flow->Shared->Prop}
  (hbase:bm.contains (.type "BaseException")=true) (hh:A.handled=none) (hplain:(backTo cpos (starEach args env)).any (·.1)=false)
  (h:wpAny (model prog w) A (eval (.Name x np) env) (fun f s₁=>f = .ref C/\wpAny (model prog w) A (evalArgs (.ref C) true (backTo cpos (starEach args env)) [])
   (fun a s₂=>a.kw=[]/\s₂.heap.get? C=some (excClassObj nm q C N bs bm hdct sn sub ab col dd k0 k1 k2 k3 k5 newId) /\
    wpAny (model prog w) A (call (.ref C) a.pos) (fun v s₃=>∃ e dc t0 sl,v = .ref e/\s₃.heap.get? C=some (excClassObj nm q C N bs bm hdct sn sub ab col dd k0 k1 k2 k3 k5 newId)/\s₃.heap.get? e=some ⟨.ref C,dc,.fields (VB (.ref t0)),sl⟩/\E (.ref e) s₃) E s₂) E s₁) E s) :
  wpAny (model prog w) A (exec (.Raise (some (.Call (.Name x np) args [] cpos)) none pos) env) Q E s:=by
 rw [arm_exec_Raise]
 first
  | refine wpAny_bind (wpAny_standAt (VU (C:=C) (nm:=nm) (q:=q) (N:=N) (bs:=bs) (bm:=bm) (hdct:=hdct) (sn:=sn) (sub:=sub) (ab:=ab) (col:=col) (dd:=dd) (k0:=k0) (k1:=k1) (k2:=k2) (k3:=k3) (k5:=k5) (newId:=newId) hbase hh (wpAny_bind (wpAny_mono (wpAny_Call_ofName (wpAny_mono h (fun f s₁ h₁=>?_) fun _ _ x=>x)) (fun v s₃ h₃=>wpAny_bind (wpAny_standAt (wpAny_pure h₃))) fun _ _ x=>x))))
  | (refine wpAny_bind (wpAny_standAt (VU (C:=C) (nm:=nm) (q:=q) (N:=N) (bs:=bs) (bm:=bm) (hdct:=hdct) (sn:=sn) (sub:=sub) (ab:=ab) (col:=col) (dd:=dd) (k0:=k0) (k1:=k1) (k2:=k2) (k3:=k3) (k5:=k5) (newId:=newId) hbase hh ?_));refine wpAny_bind (wpAny_mono (wpAny_Call_ofName (wpAny_mono h (fun f s₁ h₁=>?_) fun _ _ x=>x)) (fun v s₃ h₃=>wpAny_bind (wpAny_standAt (wpAny_pure h₃))) fun _ _ x=>x))
 obtain ⟨rfl,h₁⟩:=h₁;unfold callWith;refine wpAny_bind (wpAny_holding (wpAny_mono h₁ (fun a s₂ h₂=>wpAny_bind (wpAny_standAt ?_)) fun _ _ x=>x));obtain ⟨apos,akw⟩:=a;obtain ⟨hkw,hC,h₂⟩:=h₂;obtain rfl:akw=[]:=hkw;obtain ⟨hp,g,d,tk,os⟩:=s₂;simp only [hplain];refine wpAny_bind (wpAny_keeperOf_exc hC ?_);exact wpAny_bind (wpAny_mono h₂ (fun v s₃ h₃=>wpAny_bind (wpAny_holding (wpAny_point (wpAny_pure h₃)))) fun _ _ x=>x)
end
end PySem.W
namespace L2
open PySem PySem.Spec PyProof.Rows
open PySem.W (VB)
def XY (a:Addr) (cls:Value) (dc:Option Addr):HO := .ext fun h=>∃ t0 sl,h.get? a=some ⟨cls,dc,.fields (VB (.ref t0)),sl⟩
def del (H:Hp) (a:Addr):Hp:=fun b=>if b=a then none else H b
theorem YfP {H:Hp} {a:Addr}:del H a a=none:=by unfold del;rw [if_pos rfl]
theorem Vq {H:Hp} {a b:Addr} (h:b≠a):del H a b=H b:=by unfold del;rw [if_neg h]
theorem YhZ {H:Hp} {a b:Addr} {o:HO} (h:del H a b=some o):b≠a/\H b=some o:=by
 unfold del at h
 split at h
 ·cases h
 ·exact ⟨‹_›,h⟩
section
variable {P:Program} {w:World} {H:Hp} {h:Heap} {a t0:Addr} {cls:Value} {dc:Option Addr} {sl:Array (Option Value)}
theorem Q7 (q:h.get? a=some ⟨cls,dc,.fields (VB (.ref t0)),sl⟩):YS P w H h a (XY a cls dc):=⟨⟨t0,sl,q⟩,⟨_,q⟩,fun h1 h2 ⟨t,sl,p⟩ k=>⟨t,sl,k _ p⟩⟩
end
section
variable {X:Cx} {pins:List (Addr×Obj)} {σ:St} {H:Hp} {s:Shared} {e:Addr} {cls:Value} {M:Model} {A:Around} {Q:Unit->Shared->Prop} {EE:Value->Shared->Prop} {dc:Option Addr}
theorem Inv.oJ (I:Inv X pins σ H s) (hs:X.stack=X.env::X.outer) (hf:X.env.frame=some X.env.locals) (hex:X.ex=[]) (hA:A.frames=some (X.env::X.outer)) (he:H e=some (XY e cls dc)) (hnew:X.s₀.heap.get? e=none)
  (hQ:∀ h'' B,eG X.prog X.w X.outer X.H₀ X.s₀.heap e cls (del H e) h'' B->Xf h'' e dc->Q () { s with heap:=h'' }):wpAny M A (leaving X.env (.ref e)) Q EE s:=by
 have nx:∀ b:Addr,b∉X.ex:=by
  rw [hex];intro b z
  cases z
 have st:=I.stack;have sf:=I.gY;rw [hs] at st sf
 obtain ⟨⟨t0,sl,q0⟩,_,_⟩:=I.hok e _ he;have hne:∀ b o,X.s₀.heap.get? b=some o->b≠e:=fun b o q z=>by rw [z,hnew] at q;cases q
 have hd0:Xf s.heap e dc:=⟨_,q0,rfl⟩;have wC:(PySem.W.hideAll s.heap (e::frs (X.env::X.outer))).StaysIn s.heap:=fun b o q=>PySem.W.of_hideAll _ q
 refine wpAny_mono (XR (Wu _ _) hd0 (wpAny_leaving_firstW (Q:=fun _ s'=>∃ h'',s'={ s with heap:=h'' }/\eG X.prog X.w X.outer X.H₀ X.s₀.heap e cls (del H e) h'' (PySem.W.hideAll s.heap (e::frs (X.env::X.outer)))) (a0 := .ref t0) (base:=PySem.W.hideAll s.heap (e::frs (X.env::X.outer))) hA (PySem.W.funFrames_hide st fun env he a ha=>List.mem_cons_of_mem _ (List.mem_filterMap.mpr ⟨env,he,ha⟩)) hf q0 wC (PySem.W.hideAll_none _ (List.mem_cons_self ..)) rfl rfl rfl fun h'' hL=>⟨h'',rfl,?_⟩)) (fun _ s' z=>by
  obtain ⟨⟨h'',rfl,F⟩,d⟩:=z;exact hQ h'' _ F d) fun _ _ z=>z.1
 obtain ⟨k1,⟨_,_,k2⟩,k3,k4⟩:=hL;have sE:∀ b o,X.s₀.heap.get? b=some o->b∉frs X.outer->b∉e::frs (X.env::X.outer):=fun b o q nb z=>by
  rcases List.mem_cons.mp z with z | z
  ·exact hne b o q z
  ·exact I.iw hf q nb z
 refine ⟨⟨_,k1,PySem.W.hideAll_none _ (List.mem_cons_self ..),k2,k3⟩,fun b u q=>?_,fun b o q n nb=>PySem.W.hideAll_get _ (I.base.keep b o q n nb (nx b)) (sE b o q nb),fun b o q n hb=>?_,fun b o q nb=>?_,fun b o q n=>?_,fun b xs q=>?_,fun b o u q=>?_,fun b ps q=>?_⟩
 ·obtain ⟨nb,q⟩:=YhZ q
  refine (I.hok b u q).stay (fun c v hc r=>PySem.W.hideAll_get _ r fun z=>?_) (fun c r=>?_) fun c xs r=>?_
  ·rcases List.mem_cons.mp z with z | z
   ·subst z
    rcases hc with hc | hc
    ·exact nb hc.symm
    ·rw [he] at hc;cases hc
   ·have n:=sf c z
    rcases hc with rfl | hc
    ·rw [n] at q;cases q
    ·rw [n] at hc;cases hc
  ·rw [Vq fun z=>by rw [z,he] at r;cases r];exact r
  ·rw [Vq fun z=>by rw [z,he] at r;cases r];exact r
 ·obtain ⟨sl,e1⟩:=I.base.slot b o q n hb (nx b)
  obtain ⟨_,o',e',d⟩:=I.ok.fB.mem hb;rw [q] at e'
  cases e'
  obtain ⟨sl',e2⟩:=k4 b _ e1 d;exact ⟨sl',e2⟩
 ·obtain ⟨o',e1⟩:=I.base.there b o q (nx b)
  exact ⟨o',PySem.W.hideAll_get _ e1 (sE b o q nb)⟩
 ·rw [Vq (hne b o q)];exact I.base.free b o q n (nx b)
 ·have z:=I.base.tups b xs q
  rw [Vq fun y=>by rw [y,he] at z;cases z];exact z
 ·have z:=I.base.dB b o u q
  rw [Vq fun y=>by rw [y,he] at z;cases z];exact z
 ·obtain ⟨m,z⟩:=I.base.dY b ps q
  exact ⟨m,by rw [Vq fun y=>by rw [y,he] at z;cases z];exact z⟩
end
def Hg (X:Cx) (E:XK):Prop:=∀ (pins:List (Addr×Obj)) (σ:St) (H:Hp) (s:Shared) (e:Addr) (cls:Value) (dc:Option Addr),Inv X pins σ H s->H e=some (XY e cls dc)->(∀ o,X.s₀.heap.get? e=some o->e∈X.ex)->E cls dc (del H e)->X.xe (.ref e) s
section
variable {g:Gx} {N:List Str} {qual:Str} {st:Stmt} {f:Addr} {cdv:Value} {A:Around} {outer:List Env} {s:Shared} {H:Hp} {E:XK}
theorem Yh0:Hg (g.nA N qual st f cdv A outer s H E) E:=by
 intro pins σ H1 s1 e cls dc I he hn q;exact I.oJ rfl rfl rfl I.ok.frames he (by
  cases hq:s.heap.get? e with
  | none=>exact hq
  | some o=>exact absurd (hn o hq) (by simp [VJ])) fun h'' B F hd=>⟨e,cls,del H1 e,B,dc,rfl,I.os,I.bare,F,hd,q⟩
end
def WO (a:Addr) (fs:List (Str×V)):HO := .ext fun h=>∃ mA,h.Ns1 a mA/\(∀ f,XH (fs.lookup f) (mA f))/\PySem.Within mA (fs.map (·.1))
structure wD (K:W.Frag) (C f:Addr):Prop where
 own:W.iU K C YU "ValueError.__new__" f=true
 fn:W.isFn K (.ref f)=true
section
variable {X:Cx} {pins:List (Addr×Obj)} {σ:St} {H:Hp} {s:Shared} {C f:Addr} {k:Nat} {fd:FuncData} {ps:List Str} {sp:Sp} {ds:List Value} {dF:List V} {E:XK} {CX:gP}
theorem YfQ {Q:VK} {us:List Value} {vs:List V} (M:wD X.K C f) (F:dZ X.prog X.w X.K X.mg X.base CX k f fd ps sp) (hr:aR (k+1) X.A) (hb:Xn X.K fd ps ds) (hd:Yu dF ds)
  (hx:XL CX X E) (I:Inv X pins σ H s) (r:Yu vs us) (hz:us.length<=sizeLine)
  (h:∀ x,H x=none->s.heap.get? x=none->sp (.ref x::(vs++dF)) (upd H x (XY x (.ref C) none)) (fun v H2=>v = .non/\Q (.ref x) H2) E) :
  wpAny (model X.prog X.w) X.A (call (.ref C) us) (EP X pins σ Q) X.xe s:=by
 obtain ⟨bm,ns,nm,qn,bs,hdd,sn,sub,ab,col,dd,k0,k1,k2,k3,k5,mN,hO,hN,hi,T⟩:=PySem.W.iY I.bF M.own;obtain ⟨oI,ho,hoc⟩:=Option.map_eq_some_iff.mp (beq_iff_eq.mp M.fn);obtain ⟨hh,gg,dr,tk,os⟩:=s;refine PySem.W.kY PySem.F.excBase_ValueError T hO hN hi (I.bF _ _ ho) hoc (fun h' x hm ex=>?_) hz;obtain ⟨t0,he,_,_⟩:=hm.there;have hq:=h x (I.hok.fresh (by rw [ex];exact Nat.le_succ _)) hm.new;have I2:Inv X pins σ (upd H x (XY x (.ref C) none)) ⟨h',gg,dr,tk,os⟩:=I.laid (t':=tk) (a:=x) (o:=XY x (.ref C) none) (fun b u q=>hm.keeps b u q) (by rw [ex];exact Nat.le_succ _) (Q7 he);have r2:Yu (V.ref x::(vs++dF)) (Value.ref x::(us++ds)) := .cons rfl (r.append hd);have hl:(Value.ref x::us++ds).length=ps.length:=by
  have e:=r2.length;rw [F.len _ _ _ _ hq] at e
  exact e.symm
 refine wpAny_call (codeAny_mono (F.run _ X.stack _ _ ⟨Value.ref x::us,[]⟩ (Value.ref x::(us++ds)) _ _ E (hr.make C us []) (I2.env0.make C us []) (hb _ (Value.ref x::us) I2.bF hl) r2 hq) fun r s' hq'=>?_)
 cases r with
 | error e=>exact hx pins σ _ _ e s' I2 hq'
 | ok fl =>
  cases fl with
  | ret u =>
   obtain ⟨v,H',I3,rv,ev,q3⟩:=I2.after hq';subst ev;exact ⟨rv,⟨V.ref x,H',I3,rfl,q3⟩⟩
  | next=>exact False.elim hq'
  | brk=>exact False.elim hq'
  | cont=>exact False.elim hq'
end
structure lK (K:W.Frag) (C C':Addr):Prop where
 hd:W.hasDictIn K C=true
 ln:W.jo K C C'=true
 sa:W.findIn K (.ref C) "__setattr__"=some (some (.builtin "object.__setattr__"))
section
variable {P:Program} {w:World} {H:Hp} {h:Heap} {a:Addr} {fs:List (Str×V)} {mA:Str->Option Value}
theorem Hh (n:h.Ns1 a mA) (r:∀ f,XH (fs.lookup f) (mA f)) (wi:PySem.Within mA (fs.map (·.1))):YS P w H h a (WO a fs):=by
 obtain ⟨od,es,ep,e,c⟩:=id n;exact ⟨⟨mA,n,r,wi⟩,⟨od,e⟩,fun h1 h2 ⟨mB,⟨od,es,ep,e,c⟩,r,wi⟩ k=>⟨mB,⟨od,es,ep,k _ e,c⟩,r,wi⟩⟩
end
section
variable {X:Cx} {pins:List (Addr×Obj)} {σ:St} {H:Hp} {s:Shared} {C C' a d:Addr} {f:Str} {y:V} {u:Value} {Q:Unit->Shared->Prop} {A:Around} {E:Value->Shared->Prop} {fs:List (Str×V)}
theorem YfR (I:Inv X pins σ H s) (c:lK X.K C C') (na:W.findIn X.K (.ref C) f=some none) (e:H a=some (XY a (.ref C) none)) (ry:YC y u)
  (h:∀ d s',H d=none->d≠a->Inv X pins σ (upd (upd H d (WO d [(f,y)])) a (XY a (.ref C) (some d))) s'->Q () s'):wpAny (model X.prog X.w) A (setAttr (.ref a) f u) Q E s:=by
 obtain ⟨⟨t0,sl,q0⟩,_,_⟩:=I.hok a _ e;refine W.pG I.bF q0 rfl rfl rfl c.hd c.ln na c.sa fun h' n1 ha hk=>?_
 have hfr:H s.heap.objs.size=none:=I.hok.fresh (Nat.le_refl _);have hne:s.heap.objs.size≠a:=fun z=>by rw [z,e] at hfr;cases hfr
 have ned:∀ b o,s.heap.get? b=some o->b≠s.heap.objs.size:=fun b o q=>Nat.ne_of_lt (Heap.lt_size q)
 have wF:∀ b,H b=none->b≠a:=fun b q z=>by rw [z,e] at q;cases q
 have oth:∀ b o,H b=some o->b≠a->(upd (upd H s.heap.objs.size (WO s.heap.objs.size [(f,y)])) a (XY a (.ref C) (some s.heap.objs.size))) b=some o:=fun b o q n=>by
  rw [Yq n,Yq (YF q hfr)];exact q
 refine h _ _ hfr hne (I.un (t':=s.toks+2) ⟨fun b o q n _ _=>hk b o (wF b n) q,fun b o q n _ _=>⟨o.slots,hk b o (wF b n) q⟩,fun b o q n _=>?_,fun b o q _=>?_,fun b xs q=>?_,fun b o u q=>?_,fun b ps q=>?_⟩ fun b o q=>?_)
 ·rw [Yq (wF b n),Yq (ned b o q)];exact n
 ·by_cases z:b=a
  ·subst z;exact ⟨_,ha⟩
  ·exact ⟨o,hk b o z q⟩
 ·exact oth b _ q fun z=>by rw [z,e] at q;cases q
 ·exact oth b _ q fun z=>by rw [z,e] at q;cases q
 ·exact ⟨#[],by rw [Array.append_empty];exact oth b _ q fun z=>by rw [z,e] at q;cases q⟩
 ·by_cases z:b=a
  ·subst z
   rw [Yf] at q
   cases q
   exact Q7 ha
  ·rw [Yq z] at q
   by_cases z2:b=s.heap.objs.size
   ·subst z2
    rw [Yf] at q
    cases q
    refine Hh n1 (fun g=>?_) fun g hg=>?_
    ·by_cases eg:g=f
     ·subst eg
      rw [if_pos rfl]
      show XH (List.lookup g [(g,y)]) _
      simp only [List.lookup,beq_self_eq_true];exact ry
     ·rw [if_neg eg]
      have:(g==f)=false:=by simp [eg]
      simp only [List.lookup,this];exact True.intro
    ·by_cases eg:g=f
     ·subst eg;simp
     ·rw [if_neg eg] at hg;exact absurd rfl hg
   ·rw [Yq z2] at q
    refine (I.hok b o q).stay (fun c v hc r=>hk c v (fun zc=>?_) r) (fun c r=>?_) fun c xs r=>?_
    ·subst zc
     rcases hc with hc | hc
     ·exact z hc.symm
     ·rw [e] at hc;cases hc
    ·exact oth c _ r fun zc=>by rw [zc,e] at r;cases r
    ·exact oth c _ r fun zc=>by rw [zc,e] at r;cases r
theorem YeQ (I:Inv X pins σ H s) (c:lK X.K C C') (na:W.findIn X.K (.ref C) f=some none) (e:H a=some (XY a (.ref C) (some d))) (ed:H d=some (WO d fs)) (hl:fs.length<1000) (hne:d≠a) (ry:YC y u)
  (h:∀ s',Inv X pins σ (upd H d (WO d (Xp f y fs))) s'->Q () s'):wpAny (model X.prog X.w) A (setAttr (.ref a) f u) Q E s:=by
 obtain ⟨⟨t0,sl,q0⟩,_,_⟩:=I.hok a _ e;obtain ⟨⟨mA,n1,r,wi⟩,_,_⟩:=I.hok d _ ed;have hz:(fs.map (·.1)).length<=sizeLine:=by rw [List.length_map,sizeLine_eq];omega
 refine W.oH I.bF q0 rfl rfl rfl n1 hne c.hd c.ln na c.sa wi hz fun h' n2 sb=>?_
 obtain ⟨od,es,ep,eo,co⟩:=id n2;refine h _ (I.write (t':=s.toks+2) (x:=d) (e:=d) (by rw [ed];exact True.intro) (.inl rfl) (fun b q hb z=>(sb.2 b hb).trans z) ⟨od,eo⟩ (Hh n2 (fun g=>?_) fun g hg=>?_))
 ·rw [VI]
  by_cases q:g=f
  ·rw [if_pos q,if_pos q];exact ry
  ·rw [if_neg q,if_neg q];exact r g
 ·by_cases q:g=f
  ·rw [q];exact (WW f y fs).1
  ·refine (WW f y fs).2 g (wi g fun z=>hg ?_)
   show (if g=f then some u else mA g)=none
   rw [if_neg q];exact z
end
structure lA (g:Gx) (x:Str) (B:Addr):Prop where
 bound:g.mg x=some (.ref B)
 ga:W.specialIn g.K (.ref B) "__getattribute__"=some (some (.builtin "type.__getattribute__"))
 rd:W.readsIn g.K B (.type "type")=true
 at_:W.findCls g.K (.ref B) (.type "type") "__init__"=some (.val (.builtin "ValueError.__init__"))
def Hi (C:Addr) (t:TA):TE:=fun σ H Q=>t σ H fun vs H1=>∃ a m dc,vs=[.ref a,m]/\H1 a=some (XY a (.ref C) dc)/\Q .non H1
def Hj (C:Addr) (ta tv:TE) (f:Str):TS:=fun D σ H=>tv σ H fun y H1=>ta σ H1 fun x H2=>∃ a,x = .ref a/\((H2 a=some (XY a (.ref C) none)/\∀ d,H2 d=none->d≠a->D.nx σ (upd (upd H2 d (WO d [(f,y)])) a (XY a (.ref C) (some d)))) \/
 ∃ d fs,H2 a=some (XY a (.ref C) (some d))/\H2 d=some (WO d fs)/\fs.length<1000/\d≠a/\D.nx σ (upd H2 d (WO d (Xp f y fs))))
def tFx (C:Addr) (ta:TE) (f:Str):TE:=fun σ H Q=>ta σ H fun x H1=>∃ a d fs v,x = .ref a/\H1 a=some (Wv a (.ref C) (some d))/\H1 d=some (WO d fs)/\fs.lookup f=some v/\Q v H1
def pH (C:Addr) (fs:List Str):Sp:=fun vs H Q _=>∃ e us,vs = .ref e::us/\us.length=fs.length/\H e=some (XY e (.ref C) none)/\∀ d,H d=none->d≠e->Q .non (upd (upd H d (WO d (fs.zip us))) e (XY e (.ref C) (some d)))
def Gx.jD (g:Gx) (x:Str) (C:Addr) (qual:Str) (st:Stmt) (ps:List Str):Prop:=∃ f fd,jw g.K "__init__" qual st f fd/\Xn g.K fd ps []/\wD g.K C f/\g.mg x=some (.ref C)
def Gx.sG (g:Gx) (x:Str) (C:Addr) (ps fs:List Str):Prop:=∃ f fd,dZ g.P g.w g.K g.mg g.base jH 1 f fd ps (pH C fs)/\Xn g.K fd ps []/\wD g.K C f/\g.mg x=some (.ref C)
theorem Gx.jD.maX {g:Gx} {x qual:Str} {C:Addr} {st:Stmt} {N ps fs:List Str} (R:g.jD x C qual st ps) (S:aq N ps (Yh st)) (len:∀ vs H Q E,pH C fs vs H Q E->vs.length=ps.length) (b:Ql g 0 N qual st (pH C fs)):g.sG x C ps fs:=by
 obtain ⟨f,fd,F,bd,hm,hg⟩:=R;exact ⟨f,fd,F.ok S len fun cdv A outer s H vs Q E hr h=>b f cdv A outer s H vs Q E hr h,bd,hm,hg⟩
theorem Yhe {K:PySem.W.Frag} {h:Heap} {mg:Str->Option Value} {f C:Addr} {x qual:Str} {st:Stmt} {oc kV dc pm cd ct:Value} {od an:Option Addr} {sl:Array (Option Value)} (X:K.In h) (G:h.Ns mainGlobals mg) (ps:List Str) (aC:PySem.W.nsIn K mainGlobals x=some (some (.ref C)))
  (a:PySem.W.findIn K (.ref C) "__init__"=some (some (.ref f))) (o:PySem.W.iU K C YU "ValueError.__new__" f=true) (i:PySem.W.isFn K (.ref f)=true) (l:K.lookup f=some ⟨oc,od,.func (PySem.W.fnOf "__init__" qual (Xo st) (Xa st) (Yh st) .none kV dc pm an cd ct),sl⟩) (c:PySem.W.codeIn K cd qual=true) (k:PySem.W.keepIn K (.ref f)=true)
  (b:∀ (kV doc pm:Value) (an:Option Addr) (cdv ct:Value) (us:List Value),us.length=ps.length->bindArgs (PySem.W.fnOf "__init__" qual (Xo st) (Xa st) (Yh st) .none kV doc pm an cdv ct) ⟨us,[]⟩=pure (ps.zip us)) :
  ∀ P w base,(Gx.mk P w K mg base).jD x C qual st ps:=fun P w base =>
 have F:=Ut (st:=st) l c k
 ⟨f,_,F,F.binds b,⟨o,i⟩,PySem.W.mg_of X G aC⟩
theorem Gx.jD.own {g:Gx} {x qual:Str} {C:Addr} {st:Stmt} {ps:List Str} (R:g.jD x C qual st ps):∃ f,W.iU g.K C YU "ValueError.__new__" f=true:=by
 obtain ⟨f,_,_,_,M,_⟩:=R;exact ⟨f,M.own⟩
section
variable {g:Gx} {X:Cx} {k j:Nat} {x m f:Str} {ps:List Str} {sp:Sp} {e o value:Expr} {es:List Expr} {t:TA} {ta tv:TE} {p pos apos pos' np cpos:Pos} {C C' B:Addr} {E:XK} {fs:List Str}
theorem YfS {pl:Sem Bool} (b:lA g x B) (M:∃ fI,W.iU g.K C YU "ValueError.__new__" fI=true) (ha:PA X (e::es) t) (hX:X.gx=g:=by rfl) (hg:Gl X x:=by rfl) (hdb:(x==("__debug__":Str))=false:=by decide)
  (hst:starEach (e::es) X.env=(false,eval e X.env)::starEach es X.env:=by rfl) (hpl:(backTo pos (starEach es X.env)).any (·.1)=false:=by rfl)
  (ht:eval (.Call (.Attribute (.Name x p) "__init__" apos) (e::es) [] pos) X.env=(do
   let ov <- eval (.Name x p) X.env
   standAt apos.atName
   let (f,first) <- holding [ov] (getMethod ov "__init__" pl)
   callWith pos f first (backTo pos (starEach (e::es) X.env)) (backToKw pos (keywordEach [] X.env))):=by rfl):PE X (.Call (.Attribute (.Name x p) "__init__" apos) (e::es) [] pos) (Hi C t):=by
 subst hX;obtain ⟨fI,M⟩:=M;intro pins s σ H Q I h;refine W.methodCall_KW (pl:=pl) (aB (Vp (g:=X.gx) (pos:=p) b.bound rfl hg hdb pins s σ H (fun v H1=>v = .ref B/\H1=H) I ⟨rfl,rfl⟩) fun u s1 ⟨v,H1,I1,rv,e1,e2⟩=>?_) ht;subst e1 e2;obtain rfl:u=Value.ref B:=rv;refine W.method_cls I1.bF b.ga (W.cls_value I1.bF b.rd b.at_ rfl ?_);have I2:=I1.tok (s1.toks+1);refine PyProof.Rows.callWith_builtin1 (aB (ha pos pins _ σ H1 _ I2 h) fun us s2 ⟨vs,H2,I3,r,a,mm,dc,ev,he,q⟩=>?_) hst hpl;subst ev;obtain ⟨u1,u2,rfl,r1,r2⟩:=rO r;obtain rfl:u1=Value.ref a:=r1;obtain ⟨bm,ns,nm,qn,bs,hdd,sn,sub,ab,col,dd,k0,k1,k2,k3,k5,mN,hO,hN,hi,T⟩:=W.iY I3.bF M;obtain ⟨⟨t0,sl,q0⟩,_,_⟩:=I3.hok a _ he;obtain ⟨hh,gg,dr,tk,os⟩:=s2;refine W.kZ F.excBase_ValueError T hO q0 fun h' T' e1 hk=>⟨.non,H2,?_,rfl,q⟩
 have I4:=I3.write (t':=tk) (h':=h') (x:=a) (e:=a) (o:=XY a (.ref C) dc) (by rw [he];exact True.intro) (.inl rfl) (fun b u hb z=>hk b u hb z) ⟨_,e1⟩ (Q7 e1);rw [Gb he] at I4
 exact I4
theorem Yhf (c:lK g.K C C') (na:W.findIn g.K (.ref C) f=some none) (ha:PE X o ta) (hv:PE X value tv) (hX:X.gx=g:=by rfl) (hs:swapsWith value (some (.Attribute o f pos')) pos.line X.env=pure false:=by rfl):PS X (.Assign [.Attribute o f pos'] value pos) (Hj C ta tv f):=by
 subst hX;intro pins s σ H D I h;refine plainObj_wpAny_Assign_Attribute (aB (hv pins s σ H _ I h) fun u s1 ⟨y,H1,I1,ry,q⟩=>aB (ha pins s1 σ H1 _ I1 q) fun ov s2 ⟨x,H2,I2,rx,a,ex,q2⟩=>?_) hs;subst ex;obtain rfl:ov=Value.ref a:=rx;rcases q2 with ⟨e0,q2⟩ | ⟨d,fs,e0,e1,l,ne,q2⟩
 ·exact YfR I2 c na e0 ry fun d s3 n1 n2 I3=>⟨σ,_,I3,q2 d n1 n2⟩
 ·exact YeQ I2 c na e0 e1 l ne ry fun s3 I3=>⟨σ,_,I3,q2⟩
theorem Hl (T:cA g.K C) (na:W.findIn g.K (.ref C) f=some none) (he:PE X e ta) (hX:X.gx=g) (hb:attributeBase e f X.env (eval e X.env)=eval e X.env):PE X (.Attribute e f pos) (tFx C ta f):=by
 subst hX;intro pins s σ H Q I h;refine Ed hb (aB (he pins s σ H _ I h) fun u s1 ⟨x,H1,I1,rx,a,d,fs,v,ex,ea,ed,l,q⟩=>?_);subst ex;obtain rfl:u=Value.ref a:=rx;obtain ⟨⟨o,vs,h1,h2,h3,h4⟩,_⟩:=(show YS X.prog X.w H1 s1.heap a (Wv a (.ref C) (some d)) from I1.hok a _ ea);obtain ⟨⟨mA,n1,r,wi⟩,_⟩:=(show YS X.prog X.w H1 s1.heap d (WO d fs) from I1.hok d _ ed);obtain ⟨u,hu,ru⟩:=XH.some_of (v:=v) (o:=mA f) (by rw [<- l];exact r f);obtain ⟨hh,gg,dr,tk,os⟩:=s1;exact W.oG I1.bF T.hd h1 h2 (fun c z=>by rw [h3] at z;cases z) h4 n1.ns hu (W.handedOut_of (Ec ru)) T.hb na T.hga T.hgt ⟨v,H1,I1.tok _,ru,q⟩
theorem YaW {K:W.Frag} (T:cA K C) (h:X.K=K:=by rfl):Xt X (.builtin "isinstance") (fun xs H Q=>∃ a c cv b dc,xs=[.ref a,c]/\V6 c=some cv/\H a=some (Wv a (.ref C) dc)/\W.kitOne K (.ref C) cv=some b/\Q (.bl b) H):=by
 subst h;intro pins s σ H xs us Q I r h;obtain ⟨a,c,cv,b,dc,rfl,ec,ha,e,q⟩:=h;obtain ⟨u,w',rfl,ru,g8⟩:=rO r;have ew:w'=cv:=by
  cases c with
  | ty n=>cases (show w'=Value.type n from g8);simpa [V6] using ec
  | ref a=>cases (show w'=Value.ref a from g8);simpa [V6] using ec
  | _=>simp [V6] at ec
 subst ew
 cases (show u=Value.ref a from ru)
 obtain ⟨⟨o,vs,h1,h2,_⟩,_⟩:=(show YS X.prog X.w H s.heap a (Wv a (.ref C) dc) from I.hok a _ ha);exact W.kia_one (W.qK T.hd T.hm T.hb T.ha T.hga T.hgt) I.bF ⟨o,h1,h2⟩ e (fun z=>nomatch z) fun tk=>⟨.bl b,H,I.tok tk,rfl,q⟩
def Ho (C:Addr) (fs:List Str) (E:XK) (t:TA):TS:=fun _ σ H=>t σ H fun vs H1=>vs.length=fs.length/\vs.length<=1000/\∀ d,H1 d=none->E (.ref C) (some d) (upd H1 d (WO d (fs.zip vs)))
theorem YeR (F:g.sG x C ps fs) (hr:aR k X.A) (hR:Hg X E) (ha:PA X (e::es) t) (hj:2<=k:=by omega) (hc:X.calm=true:=by rfl) (hX:X.gx=g:=by rfl) (hg:Gl X x:=by rfl) (hdb:(x==("__debug__":Str))=false:=by decide)
  (he:starEach (e::es) X.env=(false,eval e X.env)::starEach es X.env:=by rfl) (hpl:(backTo cpos (starEach es X.env)).any (·.1)=false:=by rfl) :
  PS X (.Raise (some (.Call (.Name x np) (e::es) [] cpos)) none pos) (Ho C fs E t):=by
 subst hX;obtain ⟨f,fd,F,bd,M,hm⟩:=F;intro pins s σ H D I h;obtain ⟨bm,ns,nm,qn,bs,hd,sn,sub,ab,col,dd,k0,k1,k2,k3,k5,mN,hO,hN,hi,T⟩:=PySem.W.iY I.mod.j6 M.own;refine PySem.W.jX (C:=C) (nm:=nm) (q:=qn) (N:=ns) (bs:=bs) (bm:=bm) (hdct:=hd) (sn:=sn) (sub:=sub) (ab:=ab) (col:=col) (dd:=dd) (k0:=k0) (k1:=k1) (k2:=k2) (k3:=k3) (k5:=k5) (newId:="ValueError.__new__")
  (T.hasType PySem.F.excBase_ValueError.hasBase) (I.ok.hd hc) ?_ (WG I hg hm ⟨rfl,?_⟩ hdb)
 ·rw [he]
  show (false||(backTo cpos (starEach es X.env)).any (·.1))=false
  rw [hpl];rfl
 ·have a1:=ha cpos pins s σ H _ I h
  rw [he] at a1 ⊢
  refine Calls.evalArgs_plain (wpAny_mono a1 (fun us s2 hz=>?_) fun _ _ y=>y);obtain ⟨vs,H2,I2,r,q0,q1,q2⟩:=hz;refine ⟨rfl,I2.bk _ _ hO,wpAny_mono (YfQ (Q:=fun v H3=>∃ e dc,v = .ref e/\(∀ o,X.s₀.heap.get? e=some o->e∈X.ex)/\H3 e=some (XY e (.ref C) dc)/\E (.ref C) dc (del H3 e)) (dF:=[]) M F (hr.mono hj) bd .nil Qy I2 r (by rw [<- r.length,sizeLine_eq];omega) fun e n1 n2=>?_) (fun v s3 z=>?_) fun _ _ y=>y⟩
  ·have hs0:∀ o,X.s₀.heap.get? e=some o->e∈X.ex:=fun o hq=>Classical.byContradiction fun z=>by
    obtain ⟨o',z⟩:=I2.base.there e o hq z;rw [n2] at z
    cases z
   refine ⟨e,vs,by rw [List.append_nil],q0,Yf,fun d m1 m2=>⟨rfl,e,some d,rfl,hs0,Yf,?_⟩⟩;rw [Yq m2] at m1
   have:=q2 d m1;refine Eq.mp (congrArg (E (.ref C) (some d)) (funext fun b=>?_)) this;by_cases hb:b=e
   ·subst hb
    rw [YfP,Yq (Ne.symm m2)];exact n1
   ·rw [Vq hb,Yq hb]
    by_cases hbd:b=d
    ·subst hbd;rw [Yf,Yf]
    ·rw [Yq hbd,Yq hbd,Yq hb]
  ·obtain ⟨v',H3,I3,rv,e,dc,ev,hs0,Hq,q3⟩:=z
   subst ev;obtain rfl:v=Value.ref e:=rv;obtain ⟨⟨t0,sl,q5⟩,_,_⟩:=I3.hok e _ Hq;exact ⟨e,dc,t0,sl,rfl,I3.bk _ _ hO,q5,hR pins σ H3 s3 e _ dc I3 Hq hs0 q3⟩
end
theorem Yhg {C:Addr} {fs ps:List Str} {vs:List V} {H:Hp} {Q:VK} {E:XK} (h:pH C fs vs H Q E) (hp:ps.length=fs.length+1:=by rfl):vs.length=ps.length:=by
 obtain ⟨e,us,rfl,l,_⟩:=h;rw [hp,List.length_cons,l]
theorem Cr {C:Addr} {f n0 n1 m:Str} {vs:List V} {H:Hp} {Q:VK} {E:XK} (h:pH C [f] vs H Q E) :
  X0 (uJ (Hi C (rP (VH 0) (rP (tC (.str m)) QY)))) (Hj C (VH 0) (VH 1) f) { nx:=fun _ H'=>Q .non H',rt:=Q } (Wc [n0,n1] vs) H:=by
 obtain ⟨e,us,rfl,l,he,q⟩:=h;obtain ⟨u,rfl⟩:∃ u,us=[u]:=by
  match us,l with
  | [u],_=>exact ⟨u,rfl⟩
 refine ⟨_,rfl,e,_,_,rfl,he,?_⟩;refine ⟨_,rfl,_,rfl,e,rfl,.inl ⟨he,fun d m1 m2=>q d m1 m2⟩⟩
end L2
namespace L2
open PySem PySem.Spec PyProof.Rows
theorem YfT {K:W.Frag} {h:Heap} {mg:Str->Option Value} {x:Str} {B:Addr} (X:K.In h) (G:h.Ns mainGlobals mg) (a:W.nsIn K mainGlobals x=some (some (.ref B))) (ga:W.specialIn K (.ref B) "__getattribute__"=some (some (.builtin "type.__getattribute__"))) (rd:W.readsIn K B (.type "type")=true) (at_:W.findCls K (.ref B) (.type "type") "__init__"=some (.val (.builtin "ValueError.__init__"))) :
  ∀ P w base,lA (Gx.mk P w K mg base) x B:=fun _ _ _=>⟨W.mg_of X G a,ga,rd,at_⟩
end L2
namespace HT
open PySem PySem.Spec PyProof.Rows
variable {prog:Program} {w:World} {A:Around} {E:Value->Shared->Prop} {s:Shared}
end HT
namespace L2
open PySem
noncomputable def sm (a b:PyData):Bool:=@decide (a=b) (Classical.propDecidable _)
abbrev Say:=Except Str PyData
def take (mk:Str) (s:Say) (f:PyData->Option α):Except Str α:=match s with
 | .error m => .error m
 | .ok d=>match f d with
  | some a => .ok a
  | none => .error mk
structure IB (n:Nat) (i:Int):Prop where
 h:i.natAbs<2^(200*2^n)
mutual
def hb:PyData->Prop
 | .list xs=>xs.length<=64/\hbs xs
 | .tuple xs=>xs.length<=64/\hbs xs
 | .str x=>x.length<=64
 | .int i=>IB 0 i
 | .none=>True
 | .bool _=>True
 | .dict _=>False
def hbs:List PyData->Prop
 | []=>True
 | d::ds=>hb d/\hbs ds
end
end L2
namespace L2
open PySem PySem.Spec PyProof.Rows
mutual
def cnt:PyData->Nat
 | .list xs=>qM xs+1
 | .tuple xs=>qM xs
 | .dict _=>0
 | .none=>0
 | .bool _=>0
 | .int _=>0
 | .str _=>0
def qM:List PyData->Nat
 | []=>0
 | d::ds=>cnt d+qM ds
end
def sb:Nat->Nat
 | 0=>60
 | n+1=>4*sb n+11
end L2
set_option maxHeartbeats 4000000
namespace PySem.W
open PySem PySem.Calls PyProof.Rows
section sort
variable {f:Nat->Nat->Bool} {n:Nat}
structure OJ (f:Nat->Nat->Bool) (n:Nat):Prop where
 asy:∀ i j,i<n->j<n->f i j=true->f j i=false
 tr:∀ i j k,i<n->j<n->k<n->f j i=false->f k j=false->f k i=false
variable (O:OJ f n) (h0:0<n)
include O h0
end sort
end PySem.W
set_option maxHeartbeats 4000000
set_option maxHeartbeats 4000000
set_option maxHeartbeats 4000000
set_option maxHeartbeats 4000000
set_option maxHeartbeats 4000000
set_option maxHeartbeats 4000000
set_option maxHeartbeats 4000000
namespace L2
open PySem PySem.Spec PyProof.Rows PySem.W
abbrev gr (q:Int×List PyData):PyData := .tuple (.int q.1::q.2)
end L2
namespace L2
open PySem PySem.Spec PyProof.Rows
abbrev TBd:=(St->Hp->Prop)->XK->St->Hp->Prop
def PB (X:Cx) (b:List Stmt) (t:TBd):Prop:=∀ (pins:List (Addr×Obj)) (s:Shared) (σ:St) (H:Hp) (nx:St->Hp->Prop) (E:XK) (xh:Value->Shared->Prop) (Qn:Flow->Shared->Prop),Inv X pins σ H s ->
 (∀ H1 s1 e s',Inv X pins σ H1 s1->iD X.prog X.w X.stack H1 s1 E e s'->xh e s')->(∀ σ' H' s',Inv X pins σ' H' s'->nx σ' H'->Qn .next s')->t nx E σ H->wpAny (model X.prog X.w) X.A (execs b X.env) Qn xh s
open PySem.Builtin PySem.Builtin.Str
def pI (x y z:Str):Str :=
 if ((occurrences x y 0 x.length 1).isEmpty||(y.length==0&&z.length==0))=true then x
 else glued z (partsBetween x (occurrences x y 0 x.length 1) y.length)
theorem YdW (x y z:Str) (t u v k:Tok)
  (hf:((occurrences x y 0 x.length 1).isEmpty||(y.length==0&&z.length==0))=false ->
   (u==0||v==0)=false/\(u==v)=false/\(y==z)=false/\tooLong (x.length+(occurrences x y 0 x.length 1).length*z.length)=false) :
  Gives («str.replace» ⟨[.str x t,.str y u,.str z v,.int 1 k],[]⟩) (if ((occurrences x y 0 x.length 1).isEmpty||(y.length==0&&z.length==0))=true then .val (.str x t) else .str (glued z (partsBetween x (occurrences x y 0 x.length 1) y.length))):=by
 show Gives (countLimit "str.replace" (some (.int 1 k)) (x.length+1) >>= fun limit=>if ((occurrences x y 0 x.length limit).isEmpty||(y.length==0&&z.length==0))=true then (do rule "str.replace.nothing";ret (.str x t)) else (isSame (.str y u) (.str z v) >>= fun same=>if same=true then (do rule "str.replace.old-is-new";ret (.str x t)) else if tooLong (x.length+(occurrences x y 0 x.length limit).length*z.length)=true then unsupported "str.replace:memory" else retStr (glued z (partsBetween x (occurrences x y 0 x.length limit) y.length)))) _
 rw [countLimit_int "str.replace" 1 k (x.length+1) (by decide)]
 show Gives (if ((occurrences x y 0 x.length 1).isEmpty||(y.length==0&&z.length==0))=true then (do rule "str.replace.nothing";ret (.str x t)) else (isSame (.str y u) (.str z v) >>= fun same=>if same=true then (do rule "str.replace.old-is-new";ret (.str x t)) else if tooLong (x.length+(occurrences x y 0 x.length 1).length*z.length)=true then unsupported "str.replace:memory" else retStr (glued z (partsBetween x (occurrences x y 0 x.length 1) y.length)))) _
 cases hc:((occurrences x y 0 x.length 1).isEmpty||(y.length==0&&z.length==0))
 ·obtain ⟨h0,huv,hyz,hl⟩:=hf hc
  rw [isSame_str_other y z u v h0 huv hyz,hl];exact .of_eq rfl
 ·exact .rule (.of_eq rfl)
theorem YeS {x y z:Str} (hx:x.length<=100000) (hz:z.length<=14):(glued z (partsBetween x (occurrences x y 0 x.length 1) y.length)).length<=sizeLine:=by
 have h1:=StrLaws.occ_length_le x y 0 x.length 1;have hy:(glued y (partsBetween x (occurrences x y 0 x.length 1) y.length)).length=x.length:=by rw [StrLaws.glued_between_self]
 rw [size_glued,length_partsBetween,Nat.add_sub_cancel] at hy
 rw [size_glued,length_partsBetween,Nat.add_sub_cancel,sizeLine_eq];have h2:(occurrences x y 0 x.length 1).length*z.length<=1*z.length:=Nat.mul_le_mul_right _ h1;omega
section
variable {prog:Program} {w:World} {A:Around} {E:Value->Shared->Prop} {s:Shared} {x y z:Str} {t u v k:Tok} {Q:Value->Shared->Prop}
theorem YeT (hu:u≠0) (hv:v≠0) (huv:u≠v) (hyz:(y==z)=false) (hx:x.length<=100000) (hz:z.length<=14)
  (hq:∀ t' k,Q (.str (pI x y z) t') { s with toks:=k }):wpAny (model prog w) A (call (.builtin "str.replace") [.str x t,.str y u,.str z v,.int 1 k]) Q E s:=by
 have hl:tooLong (x.length+(occurrences x y 0 x.length 1).length*z.length)=false:=by
  have h1:=StrLaws.occ_length_le x y 0 x.length 1;have h2:(occurrences x y 0 x.length 1).length*z.length<=1*z.length:=Nat.mul_le_mul_right _ h1;unfold tooLong sizeLine;exact decide_eq_false (by omega)
 refine call_gives F.slot_str_replace (typeIs_str _ _ _) F.entry_str_replace (F.args_str_replace_4 _ _ _ _)
  (YdW x y z t u v k fun _=>⟨by simp [hu,hv],by simp [huv],hyz,hl⟩) ?_
 have hq':=hq;unfold pI at hq'
 cases hc:((occurrences x y 0 x.length 1).isEmpty||(y.length==0&&z.length==0))
 ·rw [hc] at hq'
  simp only [Bool.false_eq_true,if_false] at hq' ⊢;exact ⟨YeS hx hz,hq' _ _⟩
 ·rw [hc] at hq'
  simp only [if_true] at hq' ⊢;exact hq' t s.toks
end
section
variable {X:Cx}
theorem wG {i:Nat} {x:Str} {pos:Pos} {pins:List (Addr×Obj)} {s:Shared} {σ:St} {H:Hp} {v:V} {Q:Value->Shared->Prop} (hN:X.N[i]?=some x) (hv:j7 X.env.scope x) (hd:(x==("__debug__":Str))=false) (hcd:(x==("__classdict__":Str))=false)
  (I:Inv X pins σ H s) (e:σ[i]?=some (some v)) (h:∀ u,YC v u->Q u s):wpAny (model X.prog X.w) X.A (eval (.Name x pos) X.env) Q X.xe s:=by
 obtain ⟨m,hn,hl⟩:=I.loc;obtain ⟨u,r,l⟩:=hl i x v hN e hv;rcases l with ⟨hk,hm⟩ | ⟨hk,c,hc,hcell⟩
 ·exact wpAny_Name (wpAny_loadName_local I.ok.kind hk hn hm (h u r)) hd
 ·rcases hk with hk | hk
  ·exact wpAny_Name (wpAny_loadName_cell I.ok.kind hk hc hcell (h u r)) hd
  ·exact wpAny_Name (wpAny_loadName_free I.ok.kind hk hc hcell (h u r) hcd) hd
def wH (X:Cx) (st:Stmt) (t:TS):Prop :=
 ∀ (pins:List (Addr×Obj)) (s:Shared) (σ:St) (H:Hp) (D:Ends),Inv X pins σ H s->s.toks≠0->t D σ H->wpAny (model X.prog X.w) X.A (exec st X.env) (SP X pins D) X.xe s
def O1 (i:Nat) (k:Int) (t u:TS):TS:=fun D σ H=>∃ j:Int,σ[i]?=some (some (.int j))/\if j=k then t D σ H else u D σ H
theorem Hr {i:Nat} {x:Str} {k:Int} {kk:Nat} {p1 p2 p3 p4:Pos} {st:Stmt} {b:List Stmt} {t u:TS} (hN:X.N[i]?=some x) (hv:j7 X.env.scope x) (ha:wH X st t) (hb:gn X b u) (hd:(x==("__debug__":Str))=false) (hcd:(x==("__classdict__":Str))=false) :
  PS X (.If (.Compare (.Name x p1) [.Eq] [.Constant (.int k) kk p2] p3) [st] b p4) (O1 i k t u):=by
 intro pins s σ H D I ⟨j,e,h⟩;refine wpAny_If (wpAny_isTrue_Compare1 (wG hN hv hd hcd I e fun v r=>?_) (Yl _));obtain ⟨tk,rfl⟩:=r;refine wpAny_Constant_int (eq_int (wpAny_truthy_bool ?_));have I1:Inv X pins σ H { s with toks:=s.toks+1 }:=I.tok _;by_cases c:j=k
 ·rw [if_pos c] at h
  have e1:(j==k)=true:=by simp [c]
  rw [e1];refine wpAny_execs_cons (aB (ha pins _ σ H D I1 (Nat.succ_ne_zero _) h) fun f s1 q=>?_)
  cases f with
  | next=>exact wpAny_execs_nil q
  | ret v=>exact q
  | brk=>exact q
  | cont=>exact q
 ·rw [if_neg c] at h
  have e1:(j==k)=false:=by simp [c]
  rw [e1];exact hb pins _ σ H D I1 h
def O2 (i:Nat) (y z:Str):TS:=fun D σ H=>∃ w:Str,σ[i]?=some (some (.str w))/\w.length<=100000/\D.rt (.str (Txt.replace w y z)) H
theorem Yh1 {i:Nat} {x y z:Str} {k1 k2:Nat} {p1 p2 p3 apos cpos p5:Pos} (hN:X.N[i]?=some x) (hv:j7 X.env.scope x) (hyz:(y==z)=false) (hz:z.length<=14) (hd:(x==("__debug__":Str))=false) (hcd:(x==("__classdict__":Str))=false)
  (hbase:attributeBase (.Name x p1) "replace" X.env (eval (.Name x p1) X.env)=eval (.Name x p1) X.env) (hline:(apos.endLine==cpos.line)=true) :
  wH X (.Return (some (.Call (.Attribute (.Name x p1) "replace" apos) [.Constant (.str y) k1 p2,.Constant (.str z) k2 p3] [] cpos)) p5) (O2 i y z):=by
 intro pins s σ H D I h0 ⟨w,e,hw,q⟩;refine wpAny_Return_some (wpAny_Call_method_late hbase rfl hline rfl (wG hN hv hd hcd I e fun v r=>?_));obtain ⟨tk,rfl⟩:=r;refine ⟨"str","str.replace",PySem.F.plainAttrs_str,F.slot_str_replace,PySem.F.type_str_replace,typeIs_str s w tk,(fun a e=>by cases e),?_⟩;refine Calls.callWith_builtin rfl (Calls.evalArgs_plain ?_);refine Calls.spliced_cons (Calls.Constant_str (k:=k1) (pos:=p2) (Calls.spliced_cons (Calls.Constant_str (k:=k2) (pos:=p3) (Calls.spliced_nil ?_))));refine SC.replaceW h0 (Nat.succ_ne_zero _) (Nat.succ_ne_self _).symm hyz (by omega) hz fun t' k=>?_
 exact ⟨.str _,σ,H,I.tok _,⟨_,rfl⟩,q⟩
def Cu (i:Nat) (y z:Str):TS:=fun D σ H=>∃ w:Str,σ[i]?=some (some (.str w))/\w.length<=100000/\D.rt (.str (pI w y z)) H
theorem Yhh {i:Nat} {x y z:Str} {k1 k2 k3:Nat} {p1 p2 p3 p4 apos cpos p5:Pos} (hN:X.N[i]?=some x) (hv:j7 X.env.scope x) (hyz:(y==z)=false) (hz:z.length<=14) (hd:(x==("__debug__":Str))=false) (hcd:(x==("__classdict__":Str))=false)
  (hbase:attributeBase (.Name x p1) "replace" X.env (eval (.Name x p1) X.env)=eval (.Name x p1) X.env) (hline:(apos.endLine==cpos.line)=true) :
  wH X (.Return (some (.Call (.Attribute (.Name x p1) "replace" apos) [.Constant (.str y) k1 p2,.Constant (.str z) k2 p3,.Constant (.int 1) k3 p4] [] cpos)) p5) (Cu i y z):=by
 intro pins s σ H D I h0 ⟨w,e,hw,q⟩;refine wpAny_Return_some (wpAny_Call_method_late hbase rfl hline rfl (wG hN hv hd hcd I e fun v r=>?_));obtain ⟨tk,rfl⟩:=r;refine ⟨"str","str.replace",PySem.F.plainAttrs_str,F.slot_str_replace,PySem.F.type_str_replace,typeIs_str s w tk,(fun a e=>by cases e),?_⟩;refine Calls.callWith_builtin rfl (Calls.evalArgs_plain ?_);refine Calls.spliced_cons (Calls.Constant_str (k:=k1) (pos:=p2) (Calls.spliced_cons (Calls.Constant_str (k:=k2) (pos:=p3) (Calls.spliced_cons (wpAny_Constant_int (k:=k3) (pos:=p4) (Calls.spliced_nil ?_))))));refine YeT h0 (Nat.succ_ne_zero _) (Nat.succ_ne_self _).symm hyz (by omega) hz fun t' k=>?_
 exact ⟨.str _,σ,H,I.tok _,⟨_,rfl⟩,q⟩
end
section
variable {X:Cx} {K:W.Frag}
def O4 (K:W.Frag) (Cs:List Addr):List V->Hp->VK->Prop:=fun xs H Q=>∃ C∈Cs,∃ a c cv b dc,xs=[.ref a,c]/\V6 c=some cv/\H a=some (Wv a (.ref C) dc)/\W.kitOne K (.ref C) cv=some b/\Q (.bl b) H
theorem WP:∀ C∈([]:List Addr),cA K C:=fun _ h=>by cases h
theorem Yt {C:Addr} {Cs:List Addr} (h:cA K C) (r:∀ C∈Cs,cA K C):∀ D∈C::Cs,cA K D:=fun D hD=>by
 rcases List.mem_cons.mp hD with rfl | hD
 ·exact h
 ·exact r D hD
theorem XB {Cs:List Addr} (T:∀ C∈Cs,cA K C) (h:X.K=K:=by rfl):Xt X (.builtin "isinstance") (O4 K Cs):=by
 intro pins s σ H xs us Q I r ⟨C,hC,q⟩;exact YaW (T C hC) h pins s σ H xs us Q I r q
end
end L2
set_option maxHeartbeats 8000000
namespace KW
open PySem L2
def top (i:Nat):Stmt:=PySem.Challenge.pw_countgen_k07_whole_books_grounded.main.body.getD i (.Pass ⟨0,0,0,0⟩)
abbrev Hs:Stmt:=top 13
abbrev Ht:Stmt:=top 14
abbrev Hu:Stmt:=top 15
abbrev Hv:Stmt:=top 16
abbrev Hw:Stmt:=top 17
abbrev wI:Stmt:=top 19
theorem ZX:aq ["text","depth","sign"] ["text"] (Yh wI):=⟨rfl,rfl,rfl,by decide +kernel,rfl,by decide +kernel,by decide +kernel⟩
abbrev wJ:Stmt:=top 20
theorem wK:aq ["text","reader","note"] ["text"] (Yh wJ):=⟨rfl,rfl,rfl,by decide +kernel,rfl,by decide +kernel,by decide +kernel⟩
abbrev wL:Stmt:=top 27
theorem Hy:aq ["word","figures"] ["word"] (Yh wL):=⟨rfl,rfl,rfl,by decide +kernel,rfl,by decide +kernel,by decide +kernel⟩
abbrev wM:Stmt:=top 28
theorem YbP:aq ["note"] ["note"] (Yh wM):=⟨rfl,rfl,rfl,by decide +kernel,rfl,by decide +kernel,by decide +kernel⟩
abbrev wN:Stmt:=top 29
theorem HB:aq ["note","word"] ["note"] (Yh wN):=⟨rfl,rfl,rfl,by decide +kernel,rfl,by decide +kernel,by decide +kernel⟩
abbrev wO:Stmt:=top 30
theorem Z2i:aq ["notes","least","most"] ["notes","least","most"] (Yh wO):=⟨rfl,rfl,rfl,by decide +kernel,rfl,by decide +kernel,by decide +kernel⟩
abbrev wQ:Stmt:=top 31
theorem Z46:aq ["notes"] ["notes"] (Yh wQ):=⟨rfl,rfl,rfl,by decide +kernel,rfl,by decide +kernel,by decide +kernel⟩
abbrev wR:Stmt:=top 32
theorem HD:aq ["notes","signs"] ["notes"] (Yh wR):=⟨rfl,rfl,rfl,by decide +kernel,rfl,by decide +kernel,by decide +kernel⟩
abbrev wU:Stmt:=top 33
theorem Z4Q:aq ["notes"] ["notes"] (Yh wU):=⟨rfl,rfl,rfl,by decide +kernel,rfl,by decide +kernel,by decide +kernel⟩
abbrev wV:Stmt:=top 34
theorem Z3b:aq ["kind","notes"] ["kind","notes"] (Yh wV):=⟨rfl,rfl,rfl,by decide +kernel,rfl,by decide +kernel,by decide +kernel⟩
abbrev wW:Stmt:=top 35
theorem HF:aq ["notes","times"] ["notes"] (Yh wW):=⟨rfl,rfl,rfl,by decide +kernel,rfl,by decide +kernel,by decide +kernel⟩
abbrev wX:Stmt:=top 36
theorem HJ:aq ["note","mark"] ["note"] (Yh wX):=⟨rfl,rfl,rfl,by decide +kernel,rfl,by decide +kernel,by decide +kernel⟩
abbrev wY:Stmt:=top 37
theorem Z4v:aq ["notes"] ["notes"] (Yh wY):=⟨rfl,rfl,rfl,by decide +kernel,rfl,by decide +kernel,by decide +kernel⟩
abbrev wZ:Stmt:=top 38
theorem Z4R:aq ["name"] ["name"] (Yh wZ):=⟨rfl,rfl,rfl,by decide +kernel,rfl,by decide +kernel,by decide +kernel⟩
abbrev w6:Stmt:=top 39
theorem xg:aq ["note","kind","notes"] ["note"] (Yh w6):=⟨rfl,rfl,rfl,by decide +kernel,rfl,by decide +kernel,by decide +kernel⟩
abbrev xq:Stmt:=top 40
theorem YaX:aq ["text"] ["text"] (Yh xq):=⟨rfl,rfl,rfl,by decide +kernel,rfl,by decide +kernel,by decide +kernel⟩
abbrev xr:Stmt:=top 41
theorem HN:aq ["shape","kind"] ["shape"] (Yh xr):=⟨rfl,rfl,rfl,by decide +kernel,rfl,by decide +kernel,by decide +kernel⟩
abbrev xu:Stmt:=top 42
theorem xG:aq ["shape","found","part"] ["shape"] (Yh xu):=⟨rfl,rfl,rfl,by decide +kernel,rfl,by decide +kernel,by decide +kernel⟩
abbrev xH:Stmt:=top 43
theorem HS:aq ["draft","shape"] ["draft"] (Yh xH):=⟨rfl,rfl,rfl,by decide +kernel,rfl,by decide +kernel,by decide +kernel⟩
abbrev xJ:Stmt:=top 44
theorem HW:aq ["draft","shape"] ["draft"] (Yh xJ):=⟨rfl,rfl,rfl,by decide +kernel,rfl,by decide +kernel,by decide +kernel⟩
abbrev xK:Stmt:=top 45
theorem xM:aq ["shape","kind","shown"] ["shape"] (Yh xK):=⟨rfl,rfl,rfl,by decide +kernel,rfl,by decide +kernel,by decide +kernel⟩
abbrev xO:Stmt:=top 46
theorem YaY:aq ["shape"] ["shape"] (Yh xO):=⟨rfl,rfl,rfl,by decide +kernel,rfl,by decide +kernel,by decide +kernel⟩
abbrev xP:Stmt:=top 49
theorem xQ:aq ["shape","names","inner"] ["shape"] (Yh xP):=⟨rfl,rfl,rfl,by decide +kernel,rfl,by decide +kernel,by decide +kernel⟩
abbrev xR:Stmt:=top 50
theorem HX:aq ["book","name","pair"] ["book","name"] (Yh xR):=⟨rfl,rfl,rfl,by decide +kernel,rfl,by decide +kernel,by decide +kernel⟩
abbrev xT:Stmt:=top 51
theorem HY:aq ["rows","row"] ["rows"] (Yh xT):=⟨rfl,rfl,rfl,by decide +kernel,rfl,by decide +kernel,by decide +kernel⟩
abbrev xU:Stmt:=top 52
theorem Ia:aq ["row","parted"] ["row"] (Yh xU):=⟨rfl,rfl,rfl,by decide +kernel,rfl,by decide +kernel,by decide +kernel⟩
abbrev xV:Stmt:=top 53
theorem ZZ:aq ["book","name","shape"] ["book"] (Yh xV):=⟨rfl,rfl,rfl,by decide +kernel,rfl,by decide +kernel,by decide +kernel⟩
abbrev xW:Stmt:=top 54
theorem sH:aq ["book","name","shape","used"] ["book"] (Yh xW):=⟨rfl,rfl,rfl,by decide +kernel,rfl,by decide +kernel,by decide +kernel⟩
abbrev xX:Stmt:=top 55
theorem pJ:aq ["book","name","reached","step","shape"] ["book","name"] (Yh xX):=⟨rfl,rfl,rfl,by decide +kernel,rfl,by decide +kernel,by decide +kernel⟩
abbrev xY:Stmt:=top 56
theorem Ib:aq ["book","ring"] ["book"] (Yh xY):=⟨rfl,rfl,rfl,by decide +kernel,rfl,by decide +kernel,by decide +kernel⟩
abbrev xZ:Stmt:=top 57
theorem pK:aq ["text","rows","book","name","shape"] ["text"] (Yh xZ):=⟨rfl,rfl,rfl,by decide +kernel,rfl,by decide +kernel,by decide +kernel⟩
abbrev yc:Stmt:=top 58
theorem YbQ:aq ["book"] ["book"] (Yh yc):=⟨rfl,rfl,rfl,by decide +kernel,rfl,by decide +kernel,by decide +kernel⟩
abbrev yd:Stmt:=top 60
theorem Z4S:aq ["_law_script","_law_k"] ["_law_script","_law_k"] (Yh yd):=⟨rfl,rfl,rfl,by decide +kernel,rfl,by decide +kernel,by decide +kernel⟩
abbrev yg:Stmt:=top 61
theorem Ie:aq ["_law_cell","_law_names","_law_name"] ["_law_cell","_law_names"] (Yh yg):=⟨rfl,rfl,rfl,by decide +kernel,rfl,by decide +kernel,by decide +kernel⟩
abbrev yh:Stmt:=top 62
theorem YbR:aq ["_law_parts","_law_k"] ["_law_parts","_law_k"] (Yh yh):=⟨rfl,rfl,rfl,by decide +kernel,rfl,by decide +kernel,by decide +kernel⟩
abbrev yj:Stmt:=top 63
theorem YdX:aq ["_law_name","_law_shape_here","_law_way","_law_first"] ["_law_name","_law_shape_here","_law_way","_law_first"] (Yh yj):=⟨rfl,rfl,rfl,by decide +kernel,rfl,by decide +kernel,by decide +kernel⟩
abbrev yp:Stmt:=top 64
theorem YbS:aq ["_law_text","_law_edge"] ["_law_text","_law_edge"] (Yh yp):=⟨rfl,rfl,rfl,by decide +kernel,rfl,by decide +kernel,by decide +kernel⟩
abbrev yq:Stmt:=top 65
theorem Z4w:aq ["_law_thing","_law_ways"] ["_law_thing","_law_ways"] (Yh yq):=⟨rfl,rfl,rfl,by decide +kernel,rfl,by decide +kernel,by decide +kernel⟩
abbrev yr:Stmt:=top 66
theorem nH:aq ["_law_names","_law_bare","_law_ring_here","_law_name","_law_here","_law_k"] ["_law_names","_law_bare"] (Yh yr):=⟨rfl,rfl,rfl,by decide +kernel,rfl,by decide +kernel,by decide +kernel⟩
abbrev yt:Stmt:=top 67
theorem Ig:aq ["_law_error","_law_kinds_here"] ["_law_error"] (Yh yt):=⟨rfl,rfl,rfl,by decide +kernel,rfl,by decide +kernel,by decide +kernel⟩
abbrev yu:Stmt:=top 68
theorem YdY:aq ["_law_ways","_law_many","_law_names","_law_bare"] ["_law_ways","_law_many","_law_names","_law_bare"] (Yh yu):=⟨rfl,rfl,rfl,by decide +kernel,rfl,by decide +kernel,by decide +kernel⟩
abbrev yw:Stmt:=top 69
theorem sI:aq ["_law_script","_law_names","_law_many","_law_parts","_law_k"] ["_law_script","_law_names"] (Yh yw):=⟨rfl,rfl,rfl,by decide +kernel,rfl,by decide +kernel,by decide +kernel⟩
abbrev sJ:Stmt:=top 70
theorem Xm:aq ["_law_script","_law_many","_law_letter","_law_names","_law_shapes_here","_law_spoil","_law_ways","_law_text","_law_bare","_law_k","_law_due_here","_law_thing","_law_error","_law_found","e"] ["_law_script"] (Yh sJ):=⟨rfl,rfl,rfl,by decide +kernel,rfl,by decide +kernel,by decide +kernel⟩
abbrev Ih:Stmt:=Wh (top 18) 0
abbrev Ii:Stmt:=Wh (top 18) 1
abbrev Ij:Stmt:=Wh (top 18) 2
abbrev Ik:Stmt:=Wh (top 18) 3
abbrev ZW:Stmt:=Wh (top 18) 4
theorem Zu:aq ["self","label","word"] ["self"] (Yh ZW):=⟨rfl,rfl,rfl,by decide +kernel,rfl,by decide +kernel,by decide +kernel⟩
abbrev ZU:Stmt:=Wh (top 18) 5
theorem Il:aq ["self","notes"] ["self"] (Yh ZU):=⟨rfl,rfl,rfl,by decide +kernel,rfl,by decide +kernel,by decide +kernel⟩
abbrev Im:Stmt:=Wh (top 18) 6
abbrev yC:Stmt:=Wh (top 7) 0
theorem Z2Q:aq ["self","ring"] ["self","ring"] (Yh yC):=⟨rfl,rfl,rfl,by decide +kernel,rfl,by decide +kernel,by decide +kernel⟩
theorem Z2R {g:Gx} {C B:Addr} (R:g.jD "NoGround" C "NoGround.__init__" yC ["self","ring"]) (b:lA g "CountError" B) (xf:lK g.K C B) (ux:W.findIn g.K (.ref C) "ring"=some none):g.sG "NoGround" C ["self","ring"] ["ring"]:=by
 refine R.maX Z2Q (fun vs H Q E h=>Yhg h) fun f_ cdv A outer s H vs Q E hr h=>?_
 refine ⟨_,Yc (YY (YfS b R.own (Ya (pv 0) (Ya Yg Yb)))) (Yd (Yhf xf ux (pv 0) (pv 1))),?_⟩;exact Cr h
variable {g:Gx}
local macro_rules | `(tactic| walk_at "rd")=>`(tactic| simp (config:={ failIfUnchanged:=false,maxSteps:=10000000 }) only [L2.Wc,YhV,Cj,List.map_cons,List.map_nil,List.length_cons,List.length_nil,List.cons_append,List.nil_append,List.replicate_succ,List.replicate_zero,Nat.zero_add,Nat.reduceAdd,Nat.reduceSub,Nat.sub_self,X0,QX,V1,jG,tC,VH,j9,rI,rU,RB,uK,BW,uJ,UQ,Rn,BR,oX,YD,Wo,Y5,rP,QY,o7,rQ,Ow,Gy,Gv,uX,uW,vd,UU,Ends.gone,YfK,tB,uG,Dr,uH,Ds,uI,BP,Dt,uV,Er,Es,Et,Ro,uO,qH,vo,vA,u5,u0,Wp,Ou,tLZ,Gk,Gj,Ck,Cm,vB,Fb,Ol,Fi,SN,ni,DQ,Yg4,Wl,vG,Ew,uN,uP,YV,List.getD_cons_zero,List.getD_cons_succ,decide_true,not_true_eq_false,not_false_eq_true,
 exists_eq_left',exists_eq_left,exists_eq',exists_eq,exists_and_left,and_assoc,Option.some.injEq,V.int.injEq,V.bl.injEq,V.ref.injEq,V.str.injEq,List.getElem?_cons_zero,List.getElem?_cons_succ,List.set_cons_zero,List.set_cons_succ,List.cons.injEq,and_true,true_and,List.append_nil,decide_eq_true_eq,Bool.not_eq_true',decide_eq_false_iff_not,Bool.not_not,Bool.not_true,Bool.not_false,Bool.true_eq_false,Bool.false_eq_true,if_true,if_false,ite_true,ite_false])
theorem pN {i j:Int} (h:0<=j/\j<=1000000/\i.natAbs<2^64:=by decide):uU i j:=h
theorem few {n:Nat} (h:n<=100000):n<=sizeLine:=Nat.le_trans h (by decide)
theorem Xy (x:Int) {j:Int} (h:0<j):∃ r:Nat,x%j=r/\(r:Int)<j:=⟨(x%j).toNat,by have:=Int.emod_nonneg x (Int.ne_of_gt h);omega,by have:=Int.emod_lt_of_pos x h;have:=Int.emod_nonneg x (Int.ne_of_gt h);omega⟩
variable {C:Addr}
variable {src:List (Option Nat)} {te:TE} {σ:St} {H:Hp} {Q:VK}
namespace Rd
mutual
inductive Note where
 | leaf (l w:List Nat)
 | node (l w:List Nat) (ks:Notes)
inductive Notes where
 | nil
 | cons (n:Note) (r:Notes)
end
def Note.bQ:Note->List Nat
 | .leaf l _=>l
 | .node l _ _=>l
def Notes.snoc:Notes->Note->Notes
 | .nil,n => .cons n .nil
 | .cons m r,n => .cons m (r.snoc n)
def Notes.len:Notes->Nat
 | .nil=>0
 | .cons _ r=>r.len+1
def head (l w:List Nat):List Nat:=if l=[] then w else l++58::w
mutual
def txt:Note->List Nat
 | .leaf l w=>head l w
 | .node l w ks=>head l w++40::(cB ks++[41])
def cB:Notes->List Nat
 | .nil=>[]
 | .cons n .nil=>txt n
 | .cons n (.cons m r)=>txt n++44::cB (.cons m r)
end
def bx (c:Nat):Bool:=decide (48<=c)&&decide (c<=57)
def isSmall (c:Nat):Bool:=decide (97<=c)&&decide (c<=122)
def iG (c:Nat):Bool:=decide (65<=c)&&decide (c<=90)
def cC (c:Nat):Bool:=isSmall c||iG c||bx c
def aG (c:Nat):Bool:=cC c||c==45
def gb (l:List Nat):Prop:=l.length<=8/\∀ c∈l,isSmall c=true
def gw (w:List Nat):Prop:=1<=w.length/\w.length<=62/\∀ c∈w,aG c=true
mutual
def Ok:Nat->Note->Prop
 | _,.leaf l w=>gb l/\gw w
 | 0,.node _ _ _=>False
 | d+1,.node l w ks=>gb l/\gw w/\fH d ks
def fH:Nat->Notes->Prop
 | _,.nil=>True
 | d,.cons n r=>Ok d n/\fH d r
end
theorem Io {d:Nat}:∀ {ks:Notes} {n:Note},fH d ks->Ok d n->fH d (ks.snoc n)
 | .nil,n,_,h=>⟨h,trivial⟩
 | .cons m r,n,h,h'=>⟨h.1,Io h.2 h'⟩
theorem iZ {c:Nat} (h:isSmall c=true):aG c=true:=by simp [aG,cC,h]
def aP (d:Int) (c:Nat):Int:=if c=40 then d+1 else if c=41 then d - 1 else d
def cT (d:Int) (t:List Nat):Int:=t.foldl aP d
def bG (d:Int):List Nat->Prop
 | []=>True
 | c::r=>aP d c<=6/\bG (aP d c) r
theorem fu (d:Int) (a b:List Nat):cT d (a++b)=cT (cT d a) b:=by simp [cT]
theorem Ve:∀ (a b:List Nat) (d:Int),bG d a->bG (cT d a) b->bG d (a++b)
 | [],b,d,_,h=>h
 | c::a,b,d,h,h'=>⟨h.1,Ve a b _ h.2 h'⟩
theorem V8 {c:Nat} (h:aG c=true):c≠40/\c≠41/\c≠44/\c≠58:=by
 simp [aG,cC,isSmall,iG,bx] at h;omega
theorem Q8:∀ (t:List Nat) (d:Int),(∀ c∈t,c≠40/\c≠41)->d<=6->cT d t=d/\bG d t
 | [],d,_,_=>⟨rfl,trivial⟩
 | c::t,d,h,hd=>by
  obtain ⟨h1,h2⟩:=h c (by simp);have e:aP d c=d:=by simp [aP,h1,h2]
  obtain ⟨a,b⟩:=Q8 t d (fun x hx=>h x (by simp [hx])) hd;refine ⟨?_,?_⟩
  ·show cT (aP d c) t=d
   rw [e];exact a
  ·show aP d c<=6/\bG (aP d c) t
   rw [e];exact ⟨hd,b⟩
theorem QJ {l w:List Nat} (hl:gb l) (hw:gw w):∀ c∈head l w,c≠40/\c≠41:=by
 intro c hc;unfold head at hc
 split at hc
 ·obtain ⟨a,b,_⟩:=V8 (hw.2.2 c hc);exact ⟨a,b⟩
 ·simp at hc
  rcases hc with h | h | h
  ·obtain ⟨a,b,_⟩:=V8 (iZ (hl.2 c h));exact ⟨a,b⟩
  ·subst h;decide
  ·obtain ⟨a,b,_⟩:=V8 (hw.2.2 c h);exact ⟨a,b⟩
mutual
theorem oK:∀ (k:Nat) (n:Note) (d:Int),Ok k n->d+k<=6->cT d (txt n)=d/\bG d (txt n)
 | k,.leaf l w,d,h,hd=>Q8 _ d (QJ h.1 h.2) (by omega)
 | 0,.node l w ks,d,h,hd=>h.elim
 | k+1,.node l w ks,d,h,hd=>by
  obtain ⟨hl,hw,hk⟩:=h;obtain ⟨a,b⟩:=Q8 (head l w) d (QJ hl hw) (by omega);obtain ⟨a',b'⟩:=Ip k ks (d+1) hk (by omega);have pO:aP d 40=d+1:=by simp [aP]
  have Ir:aP (d+1) 41=d:=by simp [aP]
  refine ⟨?_,?_⟩
  ·show cT d (head l w++40::(cB ks++[41]))=d
   rw [fu,a]
   show cT (aP d 40) (cB ks++[41])=d
   rw [pO,fu,a'];exact Ir
  ·show bG d (head l w++40::(cB ks++[41]))
   refine Ve _ _ _ b ?_;rw [a];refine ⟨by rw [pO];omega,?_⟩;rw [pO];refine Ve _ _ _ b' ?_;rw [a'];exact ⟨by rw [Ir];omega,trivial⟩
theorem Ip:∀ (k:Nat) (ks:Notes) (d:Int),fH k ks->d+k<=6->cT d (cB ks)=d/\bG d (cB ks)
 | k,.nil,d,_,_=>⟨rfl,trivial⟩
 | k,.cons n .nil,d,h,hd=>oK k n d h.1 hd
 | k,.cons n (.cons m r),d,h,hd=>by
  obtain ⟨a,b⟩:=oK k n d h.1 hd;obtain ⟨a',b'⟩:=Ip k (.cons m r) d h.2 hd;have yD:aP d 44=d:=by simp [aP]
  refine ⟨?_,?_⟩
  ·show cT d (txt n++44::cB (.cons m r))=d
   rw [fu,a]
   show cT (aP d 44) _=d
   rw [yD];exact a'
  ·show bG d (txt n++44::cB (.cons m r))
   refine Ve _ _ _ b ?_;rw [a];refine ⟨by rw [yD];omega,?_⟩;rw [yD];exact b'
end
end Rd
namespace Rd
abbrev yE:Stmt:=Hs
abbrev Iu:Stmt:=Ht
abbrev Iv:Stmt:=Hu
abbrev Iw:Stmt:=Hv
abbrev Iz:Stmt:=Hw
abbrev IK:Stmt:=Ih
abbrev IV:Stmt:=Ii
abbrev IW:Stmt:=Ij
abbrev Ja:Stmt:=Ik
abbrev yF:Stmt:=Im
def fJ (f:Nat->Bool):Sp:=fun vs H Q _=>∃ l:List Nat,vs=[.str (S l)]/\l.length<=1/\Q (.bl (l.any f)) H
theorem QK {l:List Nat} (h:l.length<=1):l=[]\/∃ c,l=[c]:=by
 match l,h with
 | [],_=>exact .inl rfl
 | [c],_=>exact .inr ⟨c,rfl⟩
theorem Jb (a b:Nat):decide (([a]:List Nat)<[b])=decide (a<b):=by
 by_cases h:a<b
 ·rw [decide_eq_true h,decide_eq_true]
  exact List.Lex.rel h
 ·rw [decide_eq_false h,decide_eq_false]
  intro z
  cases z with
  | rel z=>exact h z
  | cons z=>cases z
theorem Yh2 (b:Nat):decide (([]:List Nat)<[b])=true:=decide_eq_true List.Lex.nil
theorem Cv:aq ["sign"] ["sign"] (Yh yE):=⟨rfl,rfl,rfl,by decide +kernel,rfl,by decide +kernel,by decide +kernel⟩
theorem V9 (a b:Nat) (sa sb:Str) (ea:sa=S [a]) (eb:sb=S [b]) (l:List Nat) (hl:l.length<=1) :
  (if (!decide ((S l).cps.toList<sa.cps.toList))=true then !decide (sb.cps.toList<(S l).cps.toList) else false)=l.any fun c=>decide (a<=c)&&decide (c<=b):=by
 subst ea eb;rw [YZ,YZ,YZ];rcases QK hl with rfl | ⟨c,rfl⟩
 ·rw [Yh2];rfl
 ·rw [Jb,Jb]
  simp only [List.any_cons,List.any_nil,Bool.or_false];by_cases h1:a<=c<;>by_cases h2:c<=b<;>simp [h1,h2,Nat.not_lt]<;>omega
theorem yG (R:g.Raw "is_figure" "is_figure" yE ["sign"]):g.Fn 1 "is_figure" ["sign"] (fJ bx):=by
 refine R.fn Cv (fun vs H Q E h=>by obtain ⟨l,rfl,_⟩:=h;rfl) fun f cdv A outer s H vs Q E hr h=>?_
 obtain ⟨l,rfl,hl,q⟩:=h;refine ⟨_,Yd (Yj (V2 Wi Wi Yg (pv 0) Yg)),?_⟩;have e:=V9 48 57 _ _ (show ("0":Str)=S [48] by decide +kernel) (show ("9":Str)=S [57] by decide +kernel) l hl;refine ⟨_,rfl,_,_,rfl,rfl,_,rfl,?_⟩;refine Yw (fun c=>?_) (fun c=>?_)
 ·rw [if_pos c] at e
  exact ⟨_,_,rfl,rfl,by rw [e];exact q⟩
 ·rw [if_neg c] at e
  show Q (.bl false) H
  rw [e];exact q
theorem Yhi:aq ["sign"] ["sign"] (Yh Iu):=⟨rfl,rfl,rfl,by decide +kernel,rfl,by decide +kernel,by decide +kernel⟩
theorem qN (R:g.Raw "is_small_letter" "is_small_letter" Iu ["sign"]):g.Fn 1 "is_small_letter" ["sign"] (fJ isSmall):=by
 refine R.fn Yhi (fun vs H Q E h=>by obtain ⟨l,rfl,_⟩:=h;rfl) fun f cdv A outer s H vs Q E hr h=>?_
 obtain ⟨l,rfl,hl,q⟩:=h;refine ⟨_,Yd (Yj (V2 Wi Wi Yg (pv 0) Yg)),?_⟩;have e:=V9 97 122 _ _ (show ("a":Str)=S [97] by decide +kernel) (show ("z":Str)=S [122] by decide +kernel) l hl;refine ⟨_,rfl,_,_,rfl,rfl,_,rfl,?_⟩;refine Yw (fun c=>?_) (fun c=>?_)
 ·rw [if_pos c] at e
  exact ⟨_,_,rfl,rfl,by rw [e];exact q⟩
 ·rw [if_neg c] at e
  show Q (.bl false) H
  rw [e];exact q
theorem yH (l:List Nat) (p r:Nat->Bool):(l.any fun c=>p c||r c)=(l.any p||l.any r):=by
 induction l with
 | nil=>rfl
 | cons a l ih=>simp only [List.any_cons,ih];cases p a<;>cases r a<;>simp
theorem O5:aq ["sign"] ["sign"] (Yh Iv):=⟨rfl,rfl,rfl,by decide +kernel,rfl,by decide +kernel,by decide +kernel⟩
theorem Cw (R:g.Raw "is_letter_or_figure" "is_letter_or_figure" Iv ["sign"]) (F1:g.Fn 1 "is_small_letter" ["sign"] (fJ isSmall)) (F2:g.Fn 1 "is_figure" ["sign"] (fJ bx)) :
  g.Fn 2 "is_letter_or_figure" ["sign"] (fJ cC):=by
 refine R.fn O5 (fun vs H Q E h=>by obtain ⟨l,rfl,_⟩:=h;rfl) fun f cdv A outer s H vs Q E hr h=>?_
 obtain ⟨l,rfl,hl,q⟩:=h;refine ⟨_,Yd (Yj (Qt (YM F1 hr (Ya (pv 0) Yb)) (Qt (V2 Wi Wi Yg (pv 0) Yg) (WV (YM F2 hr (Ya (pv 0) Yb)))))),?_⟩;have e:=V9 65 90 _ _ (show ("A":Str)=S [65] by decide +kernel) (show ("Z":Str)=S [90] by decide +kernel) l hl;have ea:l.any cC=(l.any isSmall||(l.any iG||l.any bx)):=by
  have:cC=fun c=>isSmall c||(iG c||bx c):=by funext c;simp [cC,Bool.or_assoc]
  rw [this,yH,yH]
 refine ⟨_,rfl,l,rfl,hl,_,rfl,?_⟩;refine Yw (fun c=>?_) (fun c=>?_)
 ·rw [ea,c] at q;exact q
 ·refine ⟨_,rfl,_,_,rfl,rfl,_,rfl,?_⟩
  have c0:l.any isSmall=false:=Bool.eq_false_iff.mpr c;refine Yw (fun c1=>?_) (fun c1=>?_)
  ·rw [if_pos c1] at e
   refine ⟨_,_,rfl,rfl,_,rfl,?_⟩;refine Yw (fun c2=>?_) (fun c2=>?_)
   ·have eb:l.any iG=true:=e.symm.trans c2
    rw [ea,eb] at q;simpa using q
   ·have eb:l.any iG=false:=e.symm.trans (Bool.eq_false_iff.mpr c2)
    refine ⟨_,rfl,l,rfl,hl,?_⟩;rw [ea,eb,c0] at q;simpa using q
  ·rw [if_neg c1] at e
   have eb:l.any iG=false:=e.symm;refine ⟨_,rfl,Uu ?_⟩;refine ⟨_,rfl,l,rfl,hl,?_⟩;rw [ea,eb,c0] at q;simpa using q
theorem O6:aq ["sign"] ["sign"] (Yh Iw):=⟨rfl,rfl,rfl,by decide +kernel,rfl,by decide +kernel,by decide +kernel⟩
theorem Cy (R:g.Raw "is_word_sign" "is_word_sign" Iw ["sign"]) (F1:g.Fn 2 "is_letter_or_figure" ["sign"] (fJ cC)):g.Fn 3 "is_word_sign" ["sign"] (fJ aG):=by
 refine R.fn O6 (fun vs H Q E h=>by obtain ⟨l,rfl,_⟩:=h;rfl) fun f cdv A outer s H vs Q E hr h=>?_
 obtain ⟨l,rfl,hl,q⟩:=h;refine ⟨_,Yd (Yj (Qt (YM F1 hr (Ya (pv 0) Yb)) (WV (XI YG (pv 0) Yg (Yl _))))),?_⟩;have ea:l.any aG=(l.any cC||l.any (·==45)):=by
  have:aG=fun c=>cC c||(c==45):=by funext c;rfl
  rw [this,yH]
 refine ⟨_,rfl,l,rfl,hl,_,rfl,?_⟩;refine Yw (fun c=>?_) (fun c=>?_)
 ·rw [ea,c] at q;exact q
 ·have c0:l.any cC=false:=Bool.eq_false_iff.mpr c
  refine ⟨_,rfl,rfl,?_⟩;have ed:(("-":Str))=S [45]:=by decide +kernel
  have e2:decide (V.str (S l)=V.str "-")=l.any (·==45):=by
   rw [ed];rcases QK hl with rfl | ⟨b,rfl⟩
   ·rw [decide_eq_false (by intro z;injection z with z;have:=Y8 z;cases this)];rfl
   ·by_cases hc:b=45
    ·subst hc;simp
    ·rw [decide_eq_false (by intro z;injection z with z;have:=Y8 z;injection this with this;exact hc this)]
     simp [hc]
  rw [ea,c0] at q
  show Q (.bl (decide (V.str (S l)=V.str "-"))) H
  rw [e2];simpa using q
def jq:Sp:=fun vs H Q _=>∃ l:List Nat,vs=[.str (S l)]/\l.length<=100000/\∀ H',Same H H'->Q (.bl (decide (1<=l.length)&&decide (l.length<=8)&&l.all isSmall)) H'
theorem Jc {n:Nat} (h:n<=1000000):n<=sizeLine:=Nat.le_trans h (by decide)
theorem Yhj:aq ["text"] ["text"] (Yh Iz):=⟨rfl,rfl,rfl,by decide +kernel,rfl,by decide +kernel,by decide +kernel⟩
theorem qO (R:g.Raw "is_label" "is_label" Iz ["text"]) (F1:g.Fn 1 "is_small_letter" ["sign"] (fJ isSmall)) (c1:g.fY "LONGEST_LABEL" (.int 8)) (bl:g.mg "len"=none) (ba:g.mg "all"=none) :
  g.Fn 2 "is_label" ["text"] jq:=by
 refine R.fn Yhj (fun vs H Q E h=>by obtain ⟨l,rfl,_⟩:=h;rfl) fun f cdv A outer s H vs Q E hr h=>?_
 obtain ⟨l,rfl,hl,q⟩:=h;refine ⟨_,Yd (Yj (Uo (V2 WT WT Ye (YJ bl Xl (Ya (pv 0) Yb)) (Vc c1))
  (WV (YJ ba (WK rfl) (Ya (XQ (src:=[none]) (N':=["sign"]) (.own .nil) rfl (QA (pv 0))
   (fun cl C s₀ H₀ fp pn=>Yv (i:=0) (show List.Nodup (["sign"]:List Str) by decide +kernel) rfl (.inl rfl)) (fun cl C s₀ H₀ fp pn=>Y4) (fun cl C s₀ H₀ fp pn=>YM F1 hr (Ya (pv 0) Yb)) (by intro x hx;simp at hx)) Yb))))),?_⟩
 have hlen:(S l).length=l.length:=Ys l;refine ⟨_,rfl,_,rfl,by rw [hlen];exact Jc (by omega),_,_,rfl,rfl,_,rfl,?_⟩;rw [hlen];refine Yw (fun c=>?_) (fun c=>?_)
 ·have c':(1:Int)<=l.length:=of_decide_eq_true c
  refine ⟨_,_,rfl,rfl,_,rfl,?_⟩;refine Yw (fun d=>?_) (fun d=>?_)
  ·have d':(l.length:Int)<=8:=of_decide_eq_true d
   refine ⟨_,rfl,S l,rfl,fun D hD=>?_⟩;refine UW (src:=[none]) (FQ (S l) (fun _=>True)) (fun i ys σ' H'=>ys=(l.take i).map (fun c=>V.bl (isSmall c))/\σ'.length=1/\Same H H'/\H' D=some (.lst ys)) ⟨by simp,rfl,.ao hD _,Yf⟩ (fun i ys σ' H' p=>⟨trivial,p.2.2.2⟩) (Vb 0) ?_ ?_
   ·rintro i ys σ' H' x hx ⟨rfl,hσ,sm,hd⟩
    rw [YZ,List.getElem?_map] at hx
    cases e:l[i]? with
    | none=>rw [e] at hx;simp at hx
    | some c =>
     rw [e] at hx
     have hx':V.str ⟨#[c]⟩=x:=by simpa using hx
     subst hx'
     match σ',hσ with
     | [o],_ =>
      refine ⟨_,rfl,[c],rfl,by simp,hd,?_,?_⟩
      ·simp
       have:=(List.getElem?_eq_some_iff.mp e).1;have h6:1000<sizeLine:=by decide
       omega
      ·refine ⟨?_,rfl,.cu hD sm _,Yf⟩
       obtain ⟨hi,hc⟩:=List.getElem?_eq_some_iff.mp e;rw [List.take_succ_eq_append_getElem hi,hc];simp
   ·rintro ys σ' H' ⟨rfl,hσ,sm,hd⟩
    refine ⟨D,l.map isSmall,rfl,au.of ?_,?_⟩
    ·rw [hd,YZ]
     simp [List.map_map]
    ·have e:((l.map isSmall).all id)=l.all isSmall:=by simp [List.all_map]
     rw [e];have:=q H' sm;rw [decide_eq_true (show 1<=l.length by omega),decide_eq_true (show l.length<=8 by omega)] at this
     simpa using this
  ·have d':¬ (l.length:Int)<=8:=of_decide_eq_false (Bool.eq_false_iff.mpr d)
   have:=q H (.refl H);rw [decide_eq_false (show ¬ l.length<=8 by omega)] at this
   simpa using this
 ·have c':¬ (1:Int)<=l.length:=of_decide_eq_false (Bool.eq_false_iff.mpr c)
  refine ⟨_,rfl,Uu ?_⟩;have:=q H (.refl H);rw [decide_eq_false (show ¬ 1<=l.length by omega)] at this
  simpa using this
end Rd
namespace Rd
def fl (t:List Nat) (i:Nat):List (Str×V):=[("text",.str (S t)),("place",.int i)]
theorem Jd:¬ (("text":Str)="place"):=by decide +kernel
theorem Q9 (t:List Nat) (i:Nat):(fl t i).lookup ("text":Str)=some (.str (S t)):=rfl
theorem We (t:List Nat) (i:Nat):(fl t i).lookup ("place":Str)=some (.int i):=by
 show List.lookup ("place":Str) [(("text":Str),V.str (S t)),(("place":Str),V.int i)]=_
 have h:(("place":Str)==("text":Str))=false:=by decide +kernel
 rw [List.lookup_cons,h,List.lookup_cons];simp
theorem yI (t:List Nat) (i:Nat) {m:Str} (h1:(m==("text":Str))=false) (h2:(m==("place":Str))=false):(fl t i).lookup m=none:=by
 show List.lookup m [(("text":Str),V.str (S t)),(("place":Str),V.int i)]=_
 rw [List.lookup_cons,h1,List.lookup_cons,h2];rfl
theorem Je (t:List Nat) (i j:Nat):Xp "place" (.int j) (fl t i)=fl t j:=by
 show (if ("text":Str)="place" then _ else (("text":Str),V.str (S t))::(if ("place":Str)="place" then [(("place":Str),V.int j)] else _))=_
 rw [if_neg Jd,if_pos rfl];rfl
theorem Yh3 (t:List Nat):Xp "place" (.int 0) (Xp "text" (.str (S t)) [])=fl t 0:=by
 show (if ("text":Str)="place" then _ else (("text":Str),V.str (S t))::Xp "place" (V.int 0) [])=_
 rw [if_neg Jd];rfl
structure Txt (g:Gx) (C:Addr):Prop where
 cl:Cls g.K C
 nT:Xe g.K C "text"
 nP:Xe g.K C "place"
def At (C:Addr) (H:Hp) (p dx:Addr) (t:List Nat) (i:Nat):Prop:=H p=some (.ins C dx (fl t i))
abbrev mv (C:Addr) (H:Hp) (p dx:Addr) (t:List Nat) (i:Nat):Hp:=upd H p (.ins C dx (fl t i))
def pP (C:Addr):Sp:=fun vs H Q _=>∃ (p dx:Addr) (t:List Nat),vs=[.ref p,.str (S t)]/\H p=some (.ins C dx [])/\Q .non (mv C H p dx t 0)
def yJ (C:Addr):Sp:=fun vs H Q _=>∃ (p dx:Addr) (t:List Nat) (i:Nat),vs=[.ref p]/\At C H p dx t i/\t.length<=2000/\Q (.str (S ((t.drop i).take 1))) H
def jY (C:Addr):Sp:=fun vs H Q _=>∃ (p dx:Addr) (t:List Nat) (i c:Nat),vs=[.ref p,.str (S [c])]/\At C H p dx t i/\t.length<=2000/\((t.drop i).head?=some c->Q (.bl true) (mv C H p dx t (i+1)))/\((t.drop i).head?≠some c->Q (.bl false) H)
def pQ (C:Addr):Sp:=fun vs H Q _=>∃ (p dx:Addr) (t:List Nat) (i:Nat) (w r:List Nat),vs=[.ref p]/\At C H p dx t i/\t.length<=2000/\t.drop i=w++r/\(∀ c∈w,aG c=true)/\(∀ c,r.head?=some c->aG c=false)/\Q (.str (S w)) (mv C H p dx t (i+w.length))
def sO (C:Addr):Sp:=fun vs H Q _=>∃ (p dx:Addr) (t:List Nat) (i:Nat),vs=[.ref p]/\At C H p dx t i/\t.length<=2000/\Q (.bl (decide (i=t.length))) H
variable {C:Addr}
theorem yK {n:Nat} (h:n<=2000):n<=sizeLine:=Jc (by omega)
theorem Yh4:aq ["self","text"] ["self","text"] (Yh IK):=⟨rfl,rfl,rfl,by decide +kernel,rfl,by decide +kernel,by decide +kernel⟩
theorem uy (T:Txt g C) (R:g.lH "NoteReader" C "NoteReader.__init__" IK ["self","text"]):g.Ma 1 "NoteReader" C ["self","text"] (pP C):=by
 refine R.ma Yh4 (fun vs H Q E h=>by obtain ⟨p,dx,t,rfl,_⟩:=h;rfl) fun f cdv A outer s H vs Q E hr h=>?_
 obtain ⟨p,dx,t,rfl,hp,q⟩:=h;refine ⟨_,Yc (Ef (pv 0) (pv 1) rfl) (Yd (Ef (pv 0) Ye rfl)),?_⟩;refine ⟨_,rfl,_,rfl,p,C,dx,[],rfl,hp,T.cl,T.nT,(by show 0<1000;decide),_,rfl,p,C,dx,_,rfl,Yf,T.cl,T.nP,(by show 1<1000;decide),?_⟩
 show Q .non (upd (upd H p _) p _)
 rw [VN,Yh3];exact q
theorem Yh5:aq ["self"] ["self"] (Yh IV):=⟨rfl,rfl,rfl,by decide +kernel,rfl,by decide +kernel,by decide +kernel⟩
theorem uz (T:Txt g C) (R:g.eX C "sign_here" "NoteReader.sign_here" IV ["self"]):g.Me 1 C "sign_here" ["self"] (yJ C):=by
 refine R.me Yh5 (fun vs H Q E h=>by obtain ⟨p,dx,t,i,rfl,_⟩:=h;rfl) fun f cdv A outer s H vs Q E hr h=>?_
 obtain ⟨p,dx,t,i,rfl,hp,ht,q⟩:=h;refine ⟨_,Yd (Yj (Vl vO (WX (pv 0) rfl) (WH (WX (pv 0) rfl)) (WH (Ym Ur (WX (pv 0) rfl) Ye)))),?_⟩;refine ⟨_,rfl,p,C,dx,_,_,rfl,hp,T.cl,T.nT,Q9 t i,_,rfl,p,C,dx,_,_,rfl,hp,T.cl,T.nP,We t i,_,rfl,_,rfl,p,C,dx,_,_,rfl,hp,T.cl,T.nP,We t i,_,_,rfl,rfl,_,rfl,_,rfl,by rw [Ys];exact yK ht,?_⟩;have e:=Gf t i (i+1);rw [Nat.add_sub_cancel_left] at e
 show Q (.str (Vo (S t) (some (i:Int)) (some ((i:Int)+1)))) H
 rw [show ((i:Int)+1)=((i+1:Nat):Int) by omega,e];exact q
theorem Jf (l:List Nat) (c:Nat):(l.take 1=[c])↔l.head?=some c:=by
 cases l with
 | nil=>simp
 | cons a l=>simp
theorem Yhk:aq ["self","sign"] ["self","sign"] (Yh IW):=⟨rfl,rfl,rfl,by decide +kernel,rfl,by decide +kernel,by decide +kernel⟩
theorem qP (T:Txt g C) (R:g.eX C "takes" "NoteReader.takes" IW ["self","sign"]) (F1:g.Me 1 C "sign_here" ["self"] (yJ C)):g.Me 2 C "takes" ["self","sign"] (jY C):=by
 refine R.me Yhk (fun vs H Q E h=>by obtain ⟨p,dx,t,i,c,rfl,_⟩:=h;rfl) fun f cdv A outer s H vs Q E hr h=>?_
 obtain ⟨p,dx,t,i,c,rfl,hp,ht,q1,q2⟩:=h;refine ⟨_,Yc (Yo (Yk UR (Uv F1 T.cl hr (pv 0)) (pv 1) (Yl _)) (Yd (Yj W7)) Yi) (Yc (Eh (pv 0) Ye Yes) (Yd (Yj W7))),?_⟩;refine ⟨_,rfl,p,dx,_,rfl,hp,yI t i (by decide +kernel) (by decide +kernel),p,dx,t,i,rfl,hp,ht,_,rfl,rfl,_,rfl,?_⟩;by_cases hc:(t.drop i).head?=some c
 ·have e:(t.drop i).take 1=[c]:=(Jf _ _).mpr hc
  rw [e];refine BX rfl ?_;refine ⟨_,rfl,p,C,dx,_,_,rfl,hp,T.cl,T.nP,We t i,_,_,rfl,rfl,dx,_,hp,(by show 2<1000;decide),?_⟩
  show Q (.bl true) (upd H p (.ins C dx (Xp "place" (.int ((i:Int)+1)) (fl t i))))
  rw [show ((i:Int)+1)=((i+1:Nat):Int) by omega,Je];exact q1 hc
 ·have e:¬ V.str (S ((t.drop i).take 1))=V.str (S [c]):=fun z=>by
   injection z with z
   exact hc ((Jf _ _).mp (Y8 z))
  rw [decide_eq_false e];exact q2 hc
theorem kj {t w r:List Nat} {i:Nat} (h:t.drop i=w++r):t.drop (i+w.length)=r:=by
 rw [<- List.drop_drop,h];simp
theorem Jg:aq ["self","begin"] ["self"] (Yh Ja):=⟨rfl,rfl,rfl,by decide +kernel,rfl,by decide +kernel,by decide +kernel⟩
theorem uD (T:Txt g C) (R:g.eX C "word_signs" "NoteReader.word_signs" Ja ["self"]) (F1:g.Me 1 C "sign_here" ["self"] (yJ C)) (F2:g.Fn 3 "is_word_sign" ["sign"] (fJ aG)):g.Me 4 C "word_signs" ["self"] (pQ C):=by
 refine R.me Jg (fun vs H Q E h=>by obtain ⟨p,dx,t,i,w,r,rfl,_⟩:=h;rfl) fun f cdv A outer s H vs Q E hr h=>?_
 obtain ⟨p,dx,t,i,w,r,rfl,hp,ht,hd,hw,hr',q⟩:=h;refine ⟨_,Yc (YB (i:=1) Jg.nd rfl (.inl rfl) (WX (pv 0) rfl)) (Yc (Dy PassesOwn.never (Xd (YM F2 hr (Ya (Uv F1 T.cl hr (pv 0)) Yb))) (Yd (Eh (pv 0) Ye Yes)))
  (Yd (Yj (Vl vO (WX (pv 0) rfl) (WH (pv 1)) (WH (WX (pv 0) rfl)))))),?_⟩
 refine ⟨_,rfl,p,C,dx,_,_,rfl,hp,T.cl,T.nP,We t i,?_⟩
 -- the loop: k signs of w are behind
 refine ⟨fun m σ H'=>∃ k,k+m=w.length/\σ=[some (.ref p),some (.int i)]/\H'=mv C H p dx t (i+k),⟨w.length,0,by omega,rfl,?_⟩,?_⟩
 ·exact (Gb hp).symm
 rintro m σ H' ⟨k,hk,rfl,rfl⟩;have hdk:t.drop (i+k)=w.drop k++r:=by
  rw [<- List.drop_drop,hd,List.drop_append_of_le_length (by omega)]
 refine ⟨_,rfl,p,dx,_,rfl,Yf,yI t (i+k) (by decide +kernel) (by decide +kernel),p,dx,t,i+k,rfl,Yf,ht,_,rfl,by rw [List.length_take];omega,_,rfl,?_⟩;by_cases hm:m=0
 ·-- the end
  have hkw:w.drop k=[]:=List.drop_eq_nil_of_le (by omega);have e:((t.drop (i+k)).take 1).any aG=false:=by
   rw [hdk,hkw,List.nil_append]
   cases r with
   | nil=>rfl
   | cons a r=>simp [hr' a rfl]
  rw [e];refine Uu ?_;have hk':k=w.length:=by omega
  subst hk';refine ⟨_,rfl,p,C,dx,_,_,rfl,Yf,T.cl,T.nT,Q9 t _,_,rfl,_,rfl,_,rfl,p,C,dx,_,_,rfl,Yf,T.cl,T.nP,We t _,_,rfl,_,rfl,by rw [Ys];exact yK ht,?_⟩;have e2:=Gf t i (i+w.length);rw [Nat.add_sub_cancel_left,hd,List.take_left] at e2
  rw [e2];exact q
 ·have hlt:k<w.length:=by omega
  have e0:w.drop k=w[k]::w.drop (k+1):=List.drop_eq_getElem_cons hlt;have e:((t.drop (i+k)).take 1).any aG=true:=by
   rw [hdk,e0]
   show (aG w[k]||false)=true
   rw [hw w[k] (List.getElem_mem hlt)];rfl
  rw [e];refine pq ?_;refine ⟨fun σ' H'=>σ'=[some (.ref p),some (.int i)]/\H'=mv C H p dx t (i+(k+1)),fun σ' H' ⟨e1,e2⟩=>⟨m - 1,by omega,k+1,by omega,e1,e2⟩,?_⟩;refine ⟨_,rfl,p,C,dx,_,_,rfl,Yf,T.cl,T.nP,We t _,_,_,rfl,rfl,dx,_,Yf,(by show 2<1000;decide),rfl,?_⟩
  show upd (upd H p _) p (.ins C dx (Xp "place" (.int (((i+k:Nat):Int)+1)) (fl t (i+k))))=_
  rw [VN,show (((i+k:Nat):Int)+1)=((i+(k+1):Nat):Int) by omega,Je]
theorem Cz:aq ["self"] ["self"] (Yh yF):=⟨rfl,rfl,rfl,by decide +kernel,rfl,by decide +kernel,by decide +kernel⟩
theorem yL (T:Txt g C) (R:g.eX C "at_end" "NoteReader.at_end" yF ["self"]) (bl:g.mg "len"=none):g.Me 1 C "at_end" ["self"] (sO C):=by
 refine R.me Cz (fun vs H Q E h=>by obtain ⟨p,dx,t,i,rfl,_⟩:=h;rfl) fun f cdv A outer s H vs Q E hr h=>?_
 obtain ⟨p,dx,t,i,rfl,hp,ht,q⟩:=h;refine ⟨_,Yd (Yj (XI YG (WX (pv 0) rfl) (YJ bl Xl (Ya (WX (pv 0) rfl) Yb)) (Yl _))),?_⟩;refine ⟨_,rfl,p,C,dx,_,_,rfl,hp,T.cl,T.nP,We t i,_,rfl,p,C,dx,_,_,rfl,hp,T.cl,T.nT,Q9 t i,_,rfl,by rw [Ys];exact yK ht,rfl,?_⟩;have e:decide (V.int (i:Int)=V.int ((S t).length:Nat))=decide (i=t.length):=by
  rw [Ys];by_cases h:i=t.length
  ·subst h;simp
  ·rw [decide_eq_false h,decide_eq_false]
   intro z;injection z with z;omega
 show Q (.bl (decide (V.int (i:Int)=V.int ((S t).length:Nat)))) H
 rw [e];exact q
end Rd
namespace Rd
mutual
def cD (H:Hp):Note->V->Prop
 | .leaf l w,v=>∃ a,v = .ref a/\H a=some (.tup [.str (S l),.str (S w),.non])
 | .node l w ks,v=>∃ a b vs,v = .ref a/\H a=some (.tup [.str (S l),.str (S w),.ref b])/\H b=some (.tup vs)/\aM H ks vs
def aM (H:Hp):Notes->List V->Prop
 | .nil,vs=>vs=[]
 | .cons n r,vs=>∃ v us,vs=v::us/\cD H n v/\aM H r us
end
def jZ (H H':Hp):Prop:=∀ b xs,H b=some (.tup xs)->H' b=some (.tup xs)
theorem Same.tups {H H':Hp} (h:Same H H'):jZ H H':=fun b xs e=>h b _ e
mutual
theorem cD.keep {H H':Hp} (h:jZ H H'):∀ {n:Note} {v:V},cD H n v->cD H' n v
 | .leaf l w,v,⟨a,e,q⟩=>⟨a,e,h a _ q⟩
 | .node l w ks,v,⟨a,b,vs,e,q,q',r⟩=>⟨a,b,vs,e,h a _ q,h b _ q',aM.keep h r⟩
theorem aM.keep {H H':Hp} (h:jZ H H'):∀ {ns:Notes} {vs:List V},aM H ns vs->aM H' ns vs
 | .nil,vs,e=>e
 | .cons n r,vs,⟨v,us,e,q,q'⟩=>⟨v,us,e,cD.keep h q,aM.keep h q'⟩
end
theorem aM.snoc {H:Hp}:∀ {ns:Notes} {vs:List V} {n:Note} {v:V},aM H ns vs->cD H n v->aM H (ns.snoc n) (vs++[v])
 | .nil,vs,n,v,e,h=>by subst e;exact ⟨v,[],rfl,h,rfl⟩
 | .cons m r,vs,n,v,⟨u,us,e,q,q'⟩,h=>by subst e;exact ⟨u,us++[v],rfl,q,q'.snoc h⟩
theorem aM.length {H:Hp}:∀ {ns:Notes} {vs:List V},aM H ns vs->vs.length=ns.len
 | .nil,vs,e=>by subst e;rfl
 | .cons m r,vs,⟨u,us,e,q,q'⟩=>by subst e;exact congrArg (·+1) q'.length
theorem nJ {C:Addr} {H:Hp} {p dx:Addr} {t:List Nat} {i:Nat} {b:Addr} {o:HO} (h:b≠p) (e:H b=some o):mv C H p dx t i b=some o:=by
 show upd H p _ b=some o
 rw [Yq h];exact e
def But (p:Addr) (H H':Hp):Prop:=∀ b o,b≠p->H b=some o->H' b=some o
theorem But.refl (p:Addr) (H:Hp):But p H H:=fun _ _ _ e=>e
theorem But.trans {p:Addr} {H H1 H2:Hp} (a:But p H H1) (b:But p H1 H2):But p H H2:=fun c o n e=>b c o n (a c o n e)
theorem But.mv {p:Addr} {H H1:Hp} (a:But p H H1) (o:HO):But p H (upd H1 p o):=fun c u n e=>by rw [Yq n];exact a c u n e
theorem But.new {p q:Addr} {H H1:Hp} (a:But p H H1) (o:HO) (h:H1 q=none):But p H (upd H1 q o):=fun c u n e=>by
 have e1:=a c u n e;rw [Yq (YF e1 h)];exact e1
theorem But.free {p:Addr} {H H':Hp} {q:Addr} (a:But p H H') (n:q≠p) (h:H' q=none):H q=none:=by
 cases e:H q with
 | none=>rfl
 | some o=>rw [a q o n e] at h;cases h
end Rd
namespace Rd
def gH (w:List Nat):Bool:=decide (1<=w.length)&&decide (w.length<=62)
def aJ (l:List Nat):Bool:=decide (1<=l.length)&&decide (l.length<=8)&&l.all isSmall
def mkN (l w:List Nat):Option Notes->Note
 | none => .leaf l w
 | some ks => .node l w ks
abbrev PL:=List Nat->Option (Note×List Nat)
abbrev PB:=List Nat->Option (Option Notes×List Nat)
def dG (pl:PL):Nat->Notes->List Nat->Option (Notes×List Nat)
 | 0,_,_=>none
 | f+1,acc,r=>if r.head?=some 44 then (match pl (r.drop 1) with
   | some (n,r')=>dG pl f (acc.snoc n) r'
   | none=>none) else some (acc,r)
def pClose:Option (Notes×List Nat)->Option (Option Notes×List Nat)
 | none=>none
 | some (ks,r)=>if r.head?=some 41 then some (some ks,r.drop 1) else none
def kE (pl:PL) (r:List Nat):Option (Option Notes×List Nat):=match pl r with
 | none=>none
 | some (n,r1)=>pClose (dG pl (r1.length+1) (.cons n .nil) r1)
def pB (pl:PL):PB:=fun r=>if r.head?=some 40 then (if (r.drop 1).head?=some 41 then some (some .nil,r.drop 2) else kE pl (r.drop 1)) else some (none,r)
def qQ (l w:List Nat):Option (Option Notes×List Nat)->Option (Note×List Nat)
 | none=>none
 | some (b,r)=>some (mkN l w b,r)
def pW (pb:PB) (l w r:List Nat):Option (Note×List Nat):=if gH w=true then qQ l w (pb r) else none
def pL (pb:PB):PL:=fun r=>if (r.dropWhile aG).head?=some 58 then (if aJ (r.takeWhile aG)=true then pW pb (r.takeWhile aG) (((r.dropWhile aG).drop 1).takeWhile aG) (((r.dropWhile aG).drop 1).dropWhile aG) else none) else pW pb [] (r.takeWhile aG) (r.dropWhile aG)
def gA:Nat->PB
 | 0=>pB (fun _=>none)
 | d+1=>pB (pL (gA d))
def fU (d:Nat):PL:=pL (gA d)
def fK (c:List Nat):Prop:=∀ D,cT D c=D
theorem fK.nil:fK []:=fun _=>rfl
theorem fK.app {a b:List Nat} (h:fK a) (h':fK b):fK (a++b):=fun D=>by rw [fu,h,h']
theorem fK.one {c:Nat} (h1:c≠40) (h2:c≠41):fK [c]:=fun D=>by
 show aP D c=D
 simp [aP,h1,h2]
theorem fK.ws:∀ {w:List Nat},(∀ c∈w,aG c=true)->fK w
 | [],_=>fK.nil
 | c::w,h=>by
  obtain ⟨a,b,_⟩:=V8 (h c (by simp));exact fK.app (a:=[c]) (fK.one a b) (fK.ws fun x hx=>h x (by simp [hx]))
theorem fK.br {c:List Nat} (h:fK c):fK (40::(c++[41])):=fun D=>by
 show cT (aP D 40) (c++[41])=D
 rw [fu,h]
 show aP (aP D 40) 41=D
 simp [aP]
def Sx (r0 r:List Nat):Prop:=∃ c,r0=c++r/\fK c
theorem Sx.refl (r:List Nat):Sx r r:=⟨[],rfl,fK.nil⟩
theorem Sx.trans {a b c:List Nat} (h:Sx a b) (h':Sx b c):Sx a c:=by
 obtain ⟨x,rfl,hx⟩:=h;obtain ⟨y,rfl,hy⟩:=h';exact ⟨x++y,by simp,hx.app hy⟩
theorem Sx.len {a b:List Nat} (h:Sx a b):b.length<=a.length:=by
 obtain ⟨x,rfl,_⟩:=h;simp
theorem Jh:∀ {a b:List Nat} {d:Int},bG d (a++b)->bG (cT d a) b
 | [],b,d,h=>h
 | c::a,b,d,h=>Jh (a:=a) h.2
theorem Sx.ok {a b:List Nat} {d:Int} (h:Sx a b) (o:bG d a):bG d b:=by
 obtain ⟨x,rfl,hx⟩:=h;have:=Jh o
 rwa [hx] at this
theorem gF {r:List Nat} {c:Nat} (h:r.head?=some c):r=c::r.drop 1:=by
 cases r with
 | nil=>cases h
 | cons a r=>cases h;rfl
theorem Sx.drop {r:List Nat} {c:Nat} (h:r.head?=some c) (h1:c≠40) (h2:c≠41):Sx r (r.drop 1):=⟨[c],gF h,fK.one h1 h2⟩
theorem Sx.ws (r:List Nat):Sx r (r.dropWhile aG):=⟨r.takeWhile aG,by simp,fK.ws fun c hc=>by
 have:=List.all_takeWhile (l:=r) (p:=aG);exact List.all_eq_true.mp this c hc⟩
def sS (pl:PL):Prop:=∀ r n r',pl r=some (n,r')->Sx r r'
theorem Ji {pl:PL} (g:sS pl):∀ {f:Nat} {acc ks:Notes} {r r':List Nat},dG pl f acc r=some (ks,r')->Sx r r'
 | 0,_,_,_,_,h=>by cases h
 | f+1,acc,ks,r,r',h=>by
  rw [dG] at h
  by_cases c:r.head?=some 44
  ·rw [if_pos c] at h
   cases e:pl (r.drop 1) with
   | none=>rw [e] at h;cases h
   | some z =>
    obtain ⟨n,r1⟩:=z;rw [e] at h
    exact ((Sx.drop c (by decide) (by decide)).trans (g _ _ _ e)).trans (Ji g h)
  ·rw [if_neg c] at h
   cases h
   exact Sx.refl _
theorem Jj {pl:PL} (g:sS pl) {r r':List Nat} {b:Option Notes} (h:pB pl r=some (b,r')):Sx r r':=by
 unfold pB at h;by_cases c:r.head?=some 40
 ·rw [if_pos c] at h
  have e:=gF c;by_cases c1:(r.drop 1).head?=some 41
  ·rw [if_pos c1] at h
   cases h
   have e1:=gF c1;rw [List.drop_drop] at e1
   exact ⟨40::([]++[41]),by rw [e,e1];rfl,fK.br fK.nil⟩
  ·rw [if_neg c1] at h
   unfold kE at h
   cases e2:pl (r.drop 1) with
   | none=>rw [e2] at h;cases h
   | some z =>
    obtain ⟨n,r1⟩:=z;rw [e2] at h
    dsimp only at h
    cases e3:dG pl (r1.length+1) (.cons n .nil) r1 with
    | none=>rw [e3] at h;cases h
    | some y =>
     obtain ⟨ks,r2⟩:=y;rw [e3] at h
     unfold pClose at h;dsimp only at h;by_cases c3:r2.head?=some 41
     ·rw [if_pos c3] at h
      cases h
      obtain ⟨x,e4,hx⟩:=(g _ _ _ e2).trans (Ji g e3);refine ⟨40::(x++[41]),?_,hx.br⟩;rw [e,e4,gF c3];simp
     ·rw [if_neg c3] at h;cases h
 ·rw [if_neg c] at h
  cases h
  exact Sx.refl _
theorem Jk {pb:PB} (g:∀ r b r',pb r=some (b,r')->Sx r r'):sS (pL pb):=by
 intro r n r' h;have w:∀ {l w x:List Nat},pW pb l w x=some (n,r')->Sx x r':=fun {l w x} h=>by
  unfold pW at h;by_cases c:gH w=true
  ·rw [if_pos c] at h
   cases e:pb x with
   | none=>rw [e] at h;cases h
   | some z =>
    obtain ⟨b,r1⟩:=z;rw [e] at h
    cases h
    exact g _ _ _ e
  ·rw [if_neg c] at h;cases h
 unfold pL at h;by_cases c:(r.dropWhile aG).head?=some 58
 ·rw [if_pos c] at h
  by_cases c1:aJ (r.takeWhile aG)=true
  ·rw [if_pos c1] at h
   exact (((Sx.ws r).trans (Sx.drop c (by decide) (by decide))).trans (Sx.ws _)).trans (w h)
  ·rw [if_neg c1] at h;cases h
 ·rw [if_neg c] at h
  exact (Sx.ws r).trans (w h)
theorem Jl:∀ (d:Nat) r b r',gA d r=some (b,r')->Sx r r'
 | 0,r,b,r',h=>Jj (pl:=fun _=>none) (fun _ _ _ h=>by cases h) h
 | d+1,r,b,r',h=>Jj (Jk (Jl d)) h
theorem jK (d:Nat):sS (fU d):=Jk (Jl d)
def O7:Option (Note×List Nat)->Option Note
 | some (n,[])=>some n
 | _=>none
def parse (t:List Nat):Option Note:=O7 (fU 6 t)
def lB (C CN:Addr) (m:Nat):Sp:=fun vs H Q E=>∃ (p dx:Addr) (t:List Nat) (i d:Nat),vs=[.ref p]/\m=d+1/\d<=6/\At C H p dx t i/\i<=t.length/\t.length<=2000/\bG (6 - (d:Int)) (t.drop i) /\
 (∀ n r v H',fU d (t.drop i)=some (n,r)->cD H' n v->At C H' p dx t (t.length - r.length)->But p H H'->Q v H')/\(fU d (t.drop i)=none->∀ H',But p H H'->E (.ref CN) none H')
def sU (C CN:Addr) (m:Nat):Sp:=fun vs H Q E=>∃ (p dx:Addr) (t:List Nat) (i:Nat),vs=[.ref p]/\m<=6/\At C H p dx t i/\i<=t.length/\t.length<=2000/\bG (6 - (m:Int)) (t.drop i) /\
 (∀ r H',gA m (t.drop i)=some (none,r)->At C H' p dx t (t.length - r.length)->But p H H'->Q .non H') /\
 (∀ ks r b vs H',gA m (t.drop i)=some (some ks,r)->H' b=some (.tup vs)->aM H' ks vs->At C H' p dx t (t.length - r.length)->But p H H'->Q (.ref b) H')/\(gA m (t.drop i)=none->∀ H',But p H H'->E (.ref CN) none H')
theorem CJ {C CN:Addr} {vs:List V} {H:Hp} {Q:VK} {E:XK} (h:lB C CN 0 vs H Q E):False:=by
 obtain ⟨p,dx,t,i,d,_,h,_⟩:=h;omega
theorem gM (m:Str) (t:List Nat) (i:Nat) (h1:(m==("text":Str))=false:=by decide +kernel) (h2:(m==("place":Str))=false:=by decide +kernel):(fl t i).lookup m=none:=yI t i h1 h2
theorem lM:∀ r:List Nat,r=r.takeWhile aG++r.dropWhile aG/\(∀ c∈r.takeWhile aG,aG c=true)/\∀ c,(r.dropWhile aG).head?=some c->aG c=false:=fun r=>by
 refine ⟨List.takeWhile_append_dropWhile.symm,fun c hc=>List.all_eq_true.mp (List.all_takeWhile (l:=r) (p:=aG)) c hc,?_⟩
 induction r with
 | nil=>intro c h;cases h
 | cons x r ih =>
  intro c h;by_cases hx:aG x=true
  ·rw [List.dropWhile_cons_of_pos hx] at h
   exact ih c h
  ·rw [List.dropWhile_cons_of_neg hx] at h
   cases h
   simpa using hx
theorem nM {t r:List Nat} {i:Nat} (hi:i<=t.length) (s:Sx (t.drop i) r):t.drop (t.length - r.length)=r:=by
 obtain ⟨c,e,_⟩:=s;have h1:=congrArg List.length e;rw [List.length_drop,List.length_append] at h1
 have h2:t.drop (i+c.length)=r:=by
  rw [<- List.drop_drop,e,List.drop_left]
 rw [<- h2]
 congr 1
 rw [h2];omega
end Rd
theorem Zk {k:Nat} {Z0 Z1:Addr} (R:g.eX Z1 "labelled_note" "NoteReader.labelled_note" ZW ["self"]) (pR:g.Fn k "is_label" ["text"] (Rd.jq)) (ZM:g.Me k Z1 "takes" ["self","sign"] (Rd.jY Z1)) (Jm:g.Me k Z1 "word_signs" ["self"] (Rd.pQ Z1)) (Z1k:g.ji k Z1 "bracketed_notes" ["self"] (Rd.sU Z1 Z0 m)) (aA:g.mg "len"=none) (ZO:g.fY "LONGEST_WORD" (.int 62)) (Z7:Cls g.K Z1) (Za:Xe g.K Z1 "text") (Z9:Xe g.K Z1 "place") (aj:g.mg "NoNote"=some (.ref Z0)) (ak:PySem.W.excIn g.K Z0 YU "ValueError.__new__"=true):g.ji (k+1) Z1 "labelled_note" ["self"] (Rd.lB Z1 Z0 (m+1)):=by
 refine R.GP Zu (fun vs H Q E h=>by obtain ⟨p,dx,t,i,d,rfl,hm,hd,hat,hi,hl,hok,q,qe⟩:=h;rfl) fun f_ cdv A outer s H vs Q E hr h=>?_
 obtain ⟨p,dx,t,i,d,rfl,hm,hd,hat,hi,hl,hok,q,qe⟩:=h;refine ⟨_,(Yc (PS.cO (YB (i:=1) Zu.nd rfl (.inl rfl) Yg))
   (Yc (PS.cO (YB (i:=2) Zu.nd rfl (.inl rfl) (Uv Jm Z7 hr (pv 0))))
   (Yc (Yo (Xd (QB ZM Z7 hr (pv 0) (Ya Yg Yb))) (Yc (PS.cO (YB (i:=1) Zu.nd rfl (.inl rfl) (pv 2)))
   (Yc (Yo (Xr (Xd (YM pR hr (Ya (pv 1) Yb)))) (Yd (YK ⟨aj,ak⟩ Y0 (Ya Yg Yb))) Yi)
   (Yd (PS.cO (YB (i:=2) Zu.nd rfl (.inl rfl) (Uv Jm Z7 hr (pv 0))))))) Yi)
   (Yc (Yo (Xr (V3 WT WT Ye (YJ aA Xl (Ya (pv 2) Yb)) (Vc ZO))) (Yd (YK ⟨aj,ak⟩ Y0 (Ya Yg Yb))) Yi)
   (Yd (Yj (XJ (Ya (pv 1) (Ya (pv 2) (Ya (UX Z1k Z7 hr YO (pv 0)) Yb)))))))))),?_⟩
 obtain rfl:d=m:=by omega
 have s58:Str.ofString ":"=S [58]:=by decide +kernel
 have e0:Str.ofString ""=S []:=by decide +kernel
 refine vV (fun σ H1=>∃ (l w:List Nat) (i1:Nat),σ=[some (.ref p),some (.str (S l)),some (.str (S w))]/\Rd.At Z1 H1 p dx t i1/\Rd.But p H H1/\i1<=t.length/\w.length<=2000/\Rd.fU d (t.drop i)=Rd.pW (Rd.gA d) l w (t.drop i1)/\Rd.Sx (t.drop i) (t.drop i1)) ?_ ?_
 rotate_left
 ·intro N hN
  obtain ⟨x1,x2,x3⟩:=Rd.lM (t.drop i);have hp:Rd.fU d (t.drop i)=Rd.pL (Rd.gA d) (t.drop i):=rfl;unfold Rd.pL at hp;have sx:=Rd.Sx.ws (t.drop i);generalize hw:(t.drop i).takeWhile Rd.aG=w at *;generalize hr1:(t.drop i).dropWhile Rd.aG=r1 at *;have hdr:t.drop (i+w.length)=r1:=Rd.kj x1;have hlen:=congrArg List.length x1;rw [List.length_drop,List.length_append] at hlen
  walk_at "rd";refine ⟨dx,_,hat,Rd.gM _ _ _,p,dx,t,i,w,r1,rfl,hat,hl,x1,x2,x3,?_⟩;have iy:Rd.At Z1 (Rd.mv Z1 H p dx t (i+w.length)) p dx t (i+w.length):=Yf;have hb1:Rd.But p H (Rd.mv Z1 H p dx t (i+w.length)):=(Rd.But.refl p H).mv _;refine ⟨dx,_,iy,Rd.gM _ _ _,p,dx,t,_,58,by rw [s58],iy,hl,fun c=>?_,fun c=>?_⟩
  ·rw [hdr] at c
   rw [if_pos c] at hp
   refine ⟨_,rfl,pq ⟨w,rfl,by omega,fun H2 s2=>⟨_,rfl,?_⟩⟩⟩;have lN:=s2 _ _ (show Rd.At Z1 (Rd.mv Z1 (Rd.mv Z1 H p dx t (i+w.length)) p dx t (i+w.length+1)) p dx t (i+w.length+1) from Yf);have hb2:Rd.But p H H2:=(hb1.mv _).trans fun b o _ e=>s2 b o e
   refine Yw (fun cf=>⟨few (by decide),qe ?_ _ hb2⟩) fun cf=>?_
   ·rw [hp,if_neg]
    intro z;have z':Rd.aJ w=false:=cf;rw [z'] at z
    cases z
   ·have jE:Rd.aJ w=true:=by
     cases z:Rd.aJ w with
     | true=>rfl
     | false=>exact (cf z).elim
    rw [if_pos jE] at hp
    have hr2:t.drop (i+w.length+1)=r1.drop 1:=by rw [<- List.drop_drop,hdr]
    obtain ⟨y1,y2,y3⟩:=Rd.lM (r1.drop 1);have sV:=(sx.trans (Rd.Sx.drop c (by decide) (by decide))).trans (Rd.Sx.ws (r1.drop 1));generalize hw2:(r1.drop 1).takeWhile Rd.aG=w2 at *;generalize hr3:(r1.drop 1).dropWhile Rd.aG=r3 at *;have Jo:t.drop (i+w.length+1)=w2++r3:=by rw [hr2,y1]
    have yM:t.drop (i+w.length+1+w2.length)=r3:=Rd.kj Jo;have hlen2:=congrArg List.length y1;have yN:=congrArg List.length (Rd.gF c);rw [List.length_cons] at yN
    rw [List.length_append] at hlen2
    refine ⟨dx,_,lN,Rd.gM _ _ _,p,dx,t,_,w2,r3,rfl,lN,hl,Jo,y2,y3,hN _ _ ⟨w,w2,i+w.length+1+w2.length,rfl,Yf,hb2.mv _,by omega,by omega,?_,?_⟩⟩
    ·rw [hp,yM]
    ·rw [yM];exact sV
  ·rw [hdr] at c
   rw [if_neg c] at hp
   refine ⟨_,rfl,Uu (hN _ _ ⟨[],w,i+w.length,by rw [e0],iy,hb1,by omega,by omega,?_,?_⟩)⟩
   ·rw [hp,hdr]
   ·rw [hdr];exact sx
 rintro σ H1 ⟨l,w,i1,rfl,iy,hb1,hi1,hwl,hpl,sx⟩;have hw1:(S w).length=w.length:=Ys w;walk_at "rd";have bad:¬ (1<=w.length/\w.length<=62)->Rd.fU d (t.drop i)=none:=fun c=>by
  rw [hpl];unfold Rd.pW;rw [if_neg];intro z;exact c (by simpa [Rd.gH] using z)
 refine ⟨few (by omega),Yw (fun c1=>Yw (fun c2=>⟨few (by decide),qe (bad (by omega)) _ hb1⟩) fun c2=>?_) fun c1=>⟨few (by decide),qe (bad (by omega)) _ hb1⟩⟩;have qR:Rd.fU d (t.drop i)=Rd.qQ l w (Rd.gA d (t.drop i1)):=by
  rw [hpl];unfold Rd.pW;rw [if_pos];have:1<=w.length/\w.length<=62:=by omega
  simpa [Rd.gH] using this
 refine ⟨dx,_,iy,Rd.gM _ _ _,p,dx,t,i1,rfl,hd,iy,hi1,hl,sx.ok hok,fun r H2 e ha hb=>⟨few (by decide),fun p1 hp1=>?_⟩,fun ks r b vs H2 e hbb hns ha hb=>⟨few (by decide),fun p1 hp1=>?_⟩,fun e H2 hb=>qe ?_ _ (hb1.trans hb)⟩
 ·exact q (.leaf l w) r _ _ (by rw [qR,e];rfl) ⟨p1,rfl,Yf⟩ ((Same.ao hp1 _) _ _ ha) ((hb1.trans hb).new _ hp1)
 ·exact q (.node l w ks) r _ _ (by rw [qR,e];rfl) ⟨p1,b,vs,rfl,Yf,(Same.ao hp1 _) _ _ hbb,hns.keep (Rd.Same.tups (.ao hp1 _))⟩ ((Same.ao hp1 _) _ _ ha) ((hb1.trans hb).new _ hp1)
 ·rw [qR,e];rfl
theorem Zh {k:Nat} {Z0 Z1:Addr} (R:g.eX Z1 "bracketed_notes" "NoteReader.bracketed_notes" ZU ["self"]) (ZM:g.Me k Z1 "takes" ["self","sign"] (Rd.jY Z1)) (ZK:g.ji k Z1 "labelled_note" ["self"] (Rd.lB Z1 Z0 m)) (Zj:g.mg "tuple"=none) (Z7:Cls g.K Z1) (Za:Xe g.K Z1 "text") (Z9:Xe g.K Z1 "place") (aj:g.mg "NoNote"=some (.ref Z0)) (ak:PySem.W.excIn g.K Z0 YU "ValueError.__new__"=true):g.ji (k+1) Z1 "bracketed_notes" ["self"] (Rd.sU Z1 Z0 m):=by
 refine R.GP Il (fun vs H Q E h=>by obtain ⟨p,dx,t,i,rfl,hm,hat,hi,hl,hok,q1,q2,qe⟩:=h;rfl) fun f_ cdv A outer s H vs Q E hr h=>?_
 obtain ⟨p,dx,t,i,rfl,hm,hat,hi,hl,hok,q1,q2,qe⟩:=h;refine ⟨_,(Yc (PS.cO (Yo (Xr (Xd (QB ZM Z7 hr (pv 0) (Ya Yg Yb)))) (Yd (Yj Wn)) Yi))
   (Yc (PS.cO (Yo (Xd (QB ZM Z7 hr (pv 0) (Ya Yg Yb))) (Yd (Yj (XJ Yb))) Yi))
   (Yc (YB (i:=1) Il.nd rfl (.inl rfl) (Xb (Ya (UX ZK Z7 hr YO (pv 0)) Yb)))
   (Yc (Dy PassesOwn.leaving (Xd (QB ZM Z7 hr (pv 0) (Ya Yg Yb))) (Yd (YY (XF PySem.F.plainAttrs_list PySem.F.slot_list_append PySem.F.type_list_append Wg (pv 1) (Ya (UX ZK Z7 hr YO (pv 0)) Yb)))))
   (Yc (Yo (Xr (Xd (QB ZM Z7 hr (pv 0) (Ya Yg Yb)))) (Yd (YK ⟨aj,ak⟩ Y0 (Ya Yg Yb))) Yi)
   (Yd (PS.cO (Yj (XZ Zj W4 (Ya (pv 1) Yb)))))))))),?_⟩
 have s40:Str.ofString "("=S [40]:=by decide +kernel
 have Jp:Str.ofString ")"=S [41]:=by decide +kernel
 have s44:Str.ofString ","=S [44]:=by decide +kernel
 have eB:∃ pl,Rd.gA m=Rd.pB pl:=by cases m<;>exact ⟨_,rfl⟩
 have tl:t.length - (t.drop i).length=i:=by rw [List.length_drop];omega
 walk_at "rd";refine ⟨dx,_,hat,Rd.gM _ _ _,p,dx,t,i,40,by rw [s40],hat,hl,fun c=>?_,fun c=>?_⟩
 rotate_left
 ·refine ⟨_,rfl,Xu rfl (q1 (t.drop i) H ?_ (by rw [tl];exact hat) (Rd.But.refl p H))⟩
  obtain ⟨pl,e⟩:=eB;rw [e];unfold Rd.pB;rw [if_neg c]
 have Jq:=Rd.gF c;rw [Jq] at hok
 have hm1:1<=m:=by
  have h1:=hok.1;rw [show Rd.aP (6 - (m:Int)) 40=6 - (m:Int)+1 by simp [Rd.aP]] at h1
  omega
 obtain ⟨d,rfl⟩:∃ d,m=d+1:=⟨m - 1,by omega⟩;have yO:Rd.bG (6 - (d:Int)) (t.drop (i+1)):=by
  have h2:=hok.2;rw [show Rd.aP (6 - ((d+1:Nat):Int)) 40=6 - (d:Int) by simp [Rd.aP];omega,List.drop_drop] at h2
  exact h2
 have hi1:i+1<=t.length:=by
  have:=congrArg List.length Jq;rw [List.length_cons,List.length_drop] at this
  omega
 have hp:Rd.gA (d+1) (t.drop i)=if (t.drop (i+1)).head?=some 41 then some (some .nil,(t.drop (i+1)).drop 1) else Rd.kE (Rd.fU d) (t.drop (i+1)):=by
  show Rd.pB (Rd.fU d) (t.drop i)=_
  unfold Rd.pB;rw [if_pos c];simp only [List.drop_drop]
 have iy:Rd.At Z1 (Rd.mv Z1 H p dx t (i+1)) p dx t (i+1):=Yf;have hb1:Rd.But p H (Rd.mv Z1 H p dx t (i+1)):=(Rd.But.refl p H).mv _;refine ⟨_,rfl,Xc (by decide) ⟨dx,_,iy,Rd.gM _ _ _,p,dx,t,i+1,41,by rw [Jp],iy,hl,fun c1=>⟨_,rfl,pq ⟨few (by decide),fun b hb=>?_⟩⟩,fun c1=>⟨_,rfl,Uu ?_⟩⟩⟩
 ·rw [if_pos c1] at hp
  have hc1:=congrArg List.length (Rd.gF c1);rw [List.length_cons,List.length_drop] at hc1
  refine q2 .nil _ b [] _ hp Yf rfl ((Same.ao hb _) _ _ ?_) ((hb1.mv _).new _ hb);rw [show t.length - ((t.drop (i+1)).drop 1).length=i+1+1 by simp only [List.length_drop] at hc1 ⊢;omega];exact Yf
 rw [if_neg c1] at hp
 refine ⟨dx,_,iy,Rd.gM _ _ _,p,dx,t,i+1,d,rfl,rfl,by omega,iy,hi1,hl,yO,fun n r1 v1 H2 e1 hv1 lN hb2=>⟨few (by decide),fun L hL=>?_⟩,fun e1 H2 hb2=>qe ?_ _ (hb1.trans hb2)⟩
 rotate_left
 ·rw [hp]
  unfold Rd.kE;rw [e1]
 have yP:Rd.Sx (t.drop (i+1)) r1:=Rd.jK d _ _ _ e1;have hr1:t.drop (t.length - r1.length)=r1:=Rd.nM hi1 yP;have hl1:r1.length<=t.length - (i+1):=by have:=yP.len;rw [List.length_drop] at this;omega
 have nO:L≠p:=(YF lN hL).symm;have hp2:Rd.gA (d+1) (t.drop i)=Rd.pClose (Rd.dG (Rd.fU d) (r1.length+1) (.cons n .nil) r1):=by
  rw [hp];unfold Rd.kE;rw [e1]
 generalize hT:Rd.dG (Rd.fU d) (r1.length+1) (.cons n .nil) r1=TOT at hp2;have Jr:Rd.But p H H2:=hb1.trans hb2;have nL0:H L=none:=Jr.free nO hL;refine ⟨fun fm σ H'=>∃ (acc:Rd.Notes) (us:List V) (r:List Nat) (f:Nat),fm=r.length/\σ=[some (.ref p),some (.ref L)]/\H' L=some (.lst us)/\Rd.aM H' acc us/\Rd.At Z1 H' p dx t (t.length - r.length)/\t.drop (t.length - r.length)=r/\Rd.But p H H'/\r.length<f/\Rd.dG (Rd.fU d) f acc r=TOT/\Rd.Sx (t.drop (i+1)) r/\us.length+r.length<=t.length,⟨r1.length,.cons n .nil,[v1],r1,r1.length+1,rfl,rfl,Yf,⟨v1,[],rfl,hv1.keep (Rd.Same.tups (.ao hL _)),rfl⟩,(Same.ao hL _) _ _ lN,hr1,Jr.new _ hL,by omega,hT,yP,by simp;omega⟩,?_⟩;rintro fm σ H' ⟨acc,us,r,f,rfl,rfl,hL',hacc,hat',hdr,hb',hf,hM,sx,hus⟩;have O8:us.length<=2000:=by omega
 obtain ⟨f,rfl⟩:∃ f',f=f'+1:=⟨f - 1,by omega⟩;rw [Rd.dG] at hM
 walk_at "rd";refine ⟨dx,_,hat',Rd.gM _ _ _,p,dx,t,_,44,by rw [s44],hat',hl,fun c=>⟨_,rfl,pq ?_⟩,fun c=>⟨_,rfl,Uu ?_⟩⟩
 ·rw [hdr] at c
  rw [if_pos c] at hM
  have hcl:=congrArg List.length (Rd.gF c);rw [List.length_cons] at hcl
  have qT:t.drop (t.length - r.length+1)=r.drop 1:=by rw [<- List.drop_drop,hdr]
  have Js:=sx.trans (Rd.Sx.drop c (by decide) (by decide));refine ⟨_,fun σ' H3 h=>h,.inl ⟨rfl,_,au.of (Rd.nJ nO hL')⟩,dx,_,Yf,Rd.gM _ _ _,p,dx,t,t.length - r.length+1,d,rfl,rfl,by omega,Yf,by omega,hl,by rw [qT];exact Js.ok yO,fun n2 r2 v2 H3 e2 hv2 hat3 hb3=>?_,fun e2 H3 hb3=>qe ?_ _ ((hb'.mv _).trans hb3)⟩
  ·rw [qT] at e2
   rw [e2] at hM
   dsimp only at hM;have Jt:H3 L=some (.lst us):=hb3 L _ nO (Rd.nJ nO hL');have sV:=Js.trans (Rd.jK d _ _ _ e2);have hl2:r2.length<r.length:=by have:=(Rd.jK d _ _ _ e2).len;omega
   have Ju:Rd.jZ H3 (upd H3 L (.lst (us++[v2]))):=fun c xs e=>by rw [Yq (W6 e Jt (by intro z;cases z))];exact e
   have tp4:Rd.jZ H' H3:=fun c xs e=>hb3 c _ (W6 e hat' (by intro z;cases z)) (Rd.nJ (W6 e hat' (by intro z;cases z)) e)
   refine ⟨us,Jt,Nat.lt_of_le_of_lt O8 (by decide),r2.length,hl2,acc.snoc n2,us++[v2],r2,rfl,rfl,Yf,((hacc.keep tp4).keep Ju).snoc (hv2.keep Ju),?_,Rd.nM hi1 sV,fun b o hb e=>?_,f,by omega,hM,sV,by rw [List.length_append,List.length_singleton];omega⟩
   ·show upd H3 L _ p=_
    rw [Yq nO.symm];exact hat3
   ·rw [Yq (YF e nL0)]
    exact hb3 b o hb (Rd.nJ hb (hb' b o hb e))
  ·rw [qT] at e2
   rw [e2] at hM
   rw [hp2,<- hM];rfl
 ·rw [hdr] at c
  rw [if_neg c] at hM
  refine ⟨dx,_,hat',Rd.gM _ _ _,p,dx,t,_,41,by rw [Jp],hat',hl,fun c1=>⟨_,rfl,Xc (by decide) ⟨us,.inl ⟨au.of (Rd.nJ nO hL'),fun b hb=>?_⟩⟩⟩,fun c1=>⟨_,rfl,Xu rfl ⟨few (by decide),qe ?_ _ hb'⟩⟩⟩
  ·rw [hdr] at c1
   have hcl:=congrArg List.length (Rd.gF c1);rw [List.length_cons] at hcl
   have tp2:Rd.jZ H' (upd (Rd.mv Z1 H' p dx t (t.length - r.length+1)) b (.tup us)):=fun c xs e=>(Same.ao hb _) _ _ (Rd.nJ (W6 e hat' (by intro z;cases z)) e)
   refine q2 acc (r.drop 1) b us _ ?_ Yf (hacc.keep tp2) ((Same.ao hb _) _ _ ?_) ((hb'.mv _).new _ hb)
   ·rw [hp2,<- hM]
    unfold Rd.pClose;dsimp only;rw [if_pos c1]
   ·rw [show t.length - (r.drop 1).length=t.length - r.length+1 by omega]
    exact Yf
  ·rw [hdr] at c1
   rw [hp2,<- hM];unfold Rd.pClose;dsimp only;rw [if_neg c1]
theorem str1 (c d:Nat) (s:Str) (e:s=S [d]):decide (V.str ⟨#[c]⟩=V.str s)=decide (c=d):=by
 subst e;by_cases h:c=d
 ·subst h;rw [decide_eq_true rfl];exact decide_eq_true rfl
 ·rw [decide_eq_false h,decide_eq_false]
  intro z;injection z with z
  have:=Y8 (a:=[c]) (b:=[d]) z
  injection this with this
  exact h this
def sW (CC:Addr):Sp:=fun vs H Q E=>∃ t:List Nat,vs=[.str (S t)]/\t.length<=100000/\(t.length<=2000->Rd.bG 0 t->Q .non H)/\(¬ (t.length<=2000/\Rd.bG 0 t)->E (.ref CC) none H)
theorem Z3D {Z3:Addr} (R:g.Raw "refuse_crowded" "refuse_crowded" wI ["text"]) (aA:g.mg "len"=none) (pU:g.fY "MOST_BRACKETS" (.int 6)) (pX:g.fY "MOST_SIGNS" (.int 2000)) (bH:g.mg "Crowded"=some (.ref Z3)) (dH:PySem.W.excIn g.K Z3 YU "ValueError.__new__"=true):g.aK (1) "refuse_crowded" ["text"] (sW Z3):=by
 refine R.fnX ZX (fun vs H Q E h=>by obtain ⟨t,rfl,hl,q,qe⟩:=h;rfl) fun f_ cdv A outer s H vs Q E hr h=>?_
 obtain ⟨t,rfl,hl,q,qe⟩:=h;refine ⟨_,(Yc (Yo (Yk W8 (YJ aA Xl (Ya (pv 0) Yb)) (Vc pX) (Yl _)) (Yd (YK ⟨bH,dH⟩ Y0 (Ya Yg Yb))) Yi)
   (Yc (PS.cO (YB (i:=1) ZX.nd rfl (.inl rfl) Ye))
   (Yd (Xs PassesOwn.leaving rfl (QA (pv 0)) (Yv (i:=2) ZX.nd rfl (.inl rfl)) (Yc (PS.cO (Yo (Yk YG (pv 2) Yg (Yl _)) (Yd (Dw (i:=1) ZX.nd rfl (.inl rfl) Ye Rp)) (Yd (Yo (Yk YG (pv 2) Yg (Yl _)) (Yd (Dw (i:=1) ZX.nd rfl (.inl rfl) Ye Rq)) Yi))))
   (Yd (Yo (Yk W8 (pv 1) (Vc pU) (Yl _)) (Yd (YK ⟨bH,dH⟩ Y0 (Ya Yg Yb))) Yi))))))),?_⟩
 have hsl:=Ys t;walk_at "rd";refine ⟨few (by omega),Yw (fun c=>⟨few (by decide),qe (by omega)⟩) fun c=>?_⟩;refine ⟨_,rfl,S t,rfl,TY (fun i σ H'=>H'=H/\∃ o,σ=[some (.str (S t)),some (.int (Rd.cT 0 (t.take i))),o]/\(Rd.bG 0 t↔Rd.bG (Rd.cT 0 (t.take i)) (t.drop i))) ⟨rfl,none,rfl,Iff.rfl⟩ ?_ ?_⟩
 ·rintro i c σ H' hc ⟨rfl,o,rfl,hk⟩
  rw [YZ] at hc
  obtain ⟨hi,hc⟩:=List.getElem?_eq_some_iff.mp hc;have e1:t.drop i=c::t.drop (i+1):=by rw [List.drop_eq_getElem_cons hi,hc]
  rw [e1] at hk
  have e2:Rd.cT 0 (t.take (i+1))=Rd.aP (Rd.cT 0 (t.take i)) c:=by
   rw [List.take_succ_eq_append_getElem hi,hc,Rd.fu];rfl
  have d1:(({ cps:=#[c] }:Str)=Str.ofString "(")↔c=40:=by
   have:=str1 c 40 "(" (by decide +kernel);rw [decide_eq_decide] at this
   exact ⟨fun z=>this.mp (by rw [z]),fun z=>by have:=this.mpr z;injection this⟩
  have d2:(({ cps:=#[c] }:Str)=Str.ofString ")")↔c=41:=by
   have:=str1 c 41 ")" (by decide +kernel);rw [decide_eq_decide] at this
   exact ⟨fun z=>this.mp (by rw [z]),fun z=>by have:=this.mpr z;injection this⟩
  have key:∀ e:Int,e=Rd.aP (Rd.cT 0 (t.take i)) c->(if 6<e then 1<=sizeLine/\E (Value.ref Z3) none H' else e=Rd.cT 0 (List.take (i+1) t)/\(Rd.bG 0 t↔Rd.bG (Rd.cT 0 (List.take (i+1) t)) (List.drop (i+1) t))):=by
   intro e he;refine Yw (fun c6=>⟨few (by decide),qe fun z=>?_⟩) fun c6=>⟨by rw [e2,he],hk.trans ⟨fun z=>by rw [e2];exact z.2,fun z=>⟨by rw [he] at c6;omega,by rw [e2] at z;exact z⟩⟩⟩
   have:=(hk.mp z.2).1;rw [he] at c6
   omega
  walk_at "rd";refine Yw (fun c1=>key _ ?_) fun c1=>Yw (fun c2=>key _ ?_) fun c2=>key _ ?_
  ·unfold Rd.aP
   rw [if_pos (d1.mp c1)]
  ·unfold Rd.aP
   rw [if_neg (fun z=>c1 (d1.mpr z)),if_pos (d2.mp c2)]
  ·unfold Rd.aP
   rw [if_neg (fun z=>c1 (d1.mpr z)),if_neg (fun z=>c2 (d2.mpr z))]
 ·rintro σ H' ⟨rfl,o,rfl,hk⟩
  rw [List.drop_of_length_le (by rw [YZ];exact Nat.le_refl _)] at hk
  exact q (by omega) (hk.mpr trivial)
def Vr (K:PySem.W.Frag) (H:Hp) (x:V):Prop:=∃ ty,f9 K H x ty/\W.kitOne K ty (.type "str")=some false
def Jv (K:PySem.W.Frag) (CN CC:Addr):Sp:=fun vs H Q E=>∃ x:V,vs=[x]/\((Vr K H x/\E (.ref CN) none H)\/∃ t:List Nat,x = .str (S t)/\t.length<=100000/\(¬ (t.length<=2000/\Rd.bG 0 t)->E (.ref CC) none H)/\(t.length<=2000->Rd.bG 0 t->Rd.parse t=none->∀ H',Same H H'->E (.ref CN) none H')/\(∀ n v H',t.length<=2000->Rd.bG 0 t->Rd.parse t=some n->Rd.cD H' n v->Same H H'->Q v H'))
theorem YbZ {k:Nat} {Z0 Z3 Z1:Addr} (R:g.Raw "read_note" "read_note" wJ ["text"]) (yQ:g.aK k "refuse_crowded" ["text"] (sW Z3)) {fZ:Nat} (Z2E:g.Ma fZ "NoteReader" Z1 ["self","text"] (Rd.pP Z1)) (nQ:fZ+1<=k) (ZK:g.ji k Z1 "labelled_note" ["self"] (Rd.lB Z1 Z0 7)) (Z3c:g.Me k Z1 "at_end" ["self"] (Rd.sO Z1)) (Zb:g.mg "isinstance"=none) (aU:g.mg "str"=none) (Z7:Cls g.K Z1) (Za:Xe g.K Z1 "text") (Z9:Xe g.K Z1 "place") (aj:g.mg "NoNote"=some (.ref Z0)) (ak:PySem.W.excIn g.K Z0 YU "ValueError.__new__"=true):g.aK (k+1) "read_note" ["text"] (Jv g.K Z0 Z3):=by
 refine R.fnX wK (fun vs H Q E h=>by obtain ⟨x,rfl,hx⟩:=h;rfl) fun f_ cdv A outer s H vs Q E hr h=>?_
 obtain ⟨x,rfl,hx⟩:=h;refine ⟨_,(Yc (Yo (Xr (Xd (YJ Zb WU (Ya (pv 0) (Ya (QC (T:="str") aU) Yb))))) (Yd (YK ⟨aj,ak⟩ Y0 (Ya Yg Yb))) Yi)
   (Yc (YY (YH yQ hr YO (Ya (pv 0) Yb)))
   (Yc (PS.cO (YB (i:=1) wK.nd rfl (.inl rfl) (Ci Z2E hr (Ya (pv 0) Yb))))
   (Yc (YB (i:=2) wK.nd rfl (.inl rfl) (UX ZK Z7 hr YO (pv 1)))
   (Yc (Yo (Xr (Xd (Uv Z3c Z7 hr (pv 1)))) (Yd (YK ⟨aj,ak⟩ Y0 (Ya Yg Yb))) Yi)
   (Yd (PS.cO (Yj (pv 2))))))))),?_⟩
 walk_at "rd";rcases hx with ⟨⟨ty,h1,h2⟩,qe⟩ | ⟨t,rfl,hl,qc,qn,q⟩
 ·exact ⟨_,rfl,_,h1,false,h2,Xu rfl ⟨few (by decide),qe⟩⟩
 refine ⟨_,rfl,_,.str _,true,rfl,Xc (by decide) ⟨t,rfl,hl,fun h1 h2=>?_,fun h=>qc h⟩⟩;intro x dx hx hdx hne;have back:∀ H2,Rd.But x (Rd.mv Z1 (upd (upd H dx (HO.own x)) x (HO.ins Z1 dx [])) x dx t 0) H2->Same H H2:=fun H2 hb b o e=>by
  refine hb b o (YF e hx) ?_
  show upd (upd (upd H dx _) x _) x _ b=_
  rw [Yq (YF e hx),Yq (YF e hx),Yq (YF e hdx)];exact e
 refine ⟨x,dx,t,rfl,Yf,rfl,dx,_,Yf,Rd.gM _ _ _,x,dx,t,0,6,rfl,rfl,by omega,Yf,Nat.zero_le _,h1,by simpa using h2,fun n r v H2 e hv ha hb=>⟨dx,_,ha,Rd.gM _ _ _,x,dx,t,_,rfl,ha,h1,_,rfl,?_⟩,fun e H2 hb=>qn h1 h2 ?_ H2 (back H2 hb)⟩
 ·rw [List.drop_zero] at e
  have hrl:=(Rd.jK 6 _ _ _ e).len;refine Yw (fun c=>⟨few (by decide),qn h1 h2 ?_ H2 (back H2 hb)⟩) fun c=>q n v H2 h1 h2 ?_ hv (back H2 hb)
  ·unfold Rd.parse
   rw [e]
   cases r with
   | nil=>exact absurd c (by simp)
   | cons a r=>rfl
  ·unfold Rd.parse
   rw [e]
   cases r with
   | nil=>rfl
   | cons a r =>
    refine (c (decide_eq_false ?_)).elim;rw [List.length_cons] at hrl ⊢
    omega
 ·rw [List.drop_zero] at e
  unfold Rd.parse;rw [e];rfl
namespace Rd
theorem Jw {pl:PL} {d:Nat} (g:∀ r n r',pl r=some (n,r')->Ok d n):∀ {f:Nat} {acc ks:Notes} {r r':List Nat},fH d acc->dG pl f acc r=some (ks,r')->fH d ks
 | 0,_,_,_,_,_,h=>by cases h
 | f+1,acc,ks,r,r',ha,h=>by
  rw [dG] at h
  by_cases c:r.head?=some 44
  ·rw [if_pos c] at h
   cases e:pl (r.drop 1) with
   | none=>rw [e] at h;cases h
   | some z =>
    obtain ⟨n,r1⟩:=z;rw [e] at h
    exact Jw g (Io ha (g _ _ _ e)) h
  ·rw [if_neg c] at h
   cases h
   exact ha
theorem Jx {pl:PL} {d:Nat} (g:∀ r n r',pl r=some (n,r')->Ok d n) {r r':List Nat} {ks:Notes} (h:pB pl r=some (some ks,r')):fH d ks:=by
 unfold pB at h;by_cases c:r.head?=some 40
 ·rw [if_pos c] at h
  by_cases c1:(r.drop 1).head?=some 41
  ·rw [if_pos c1] at h
   cases h
   cases d<;>exact trivial
  ·rw [if_neg c1] at h
   unfold kE at h
   cases e2:pl (r.drop 1) with
   | none=>rw [e2] at h;cases h
   | some z =>
    obtain ⟨n,r1⟩:=z;rw [e2] at h
    dsimp only at h
    cases e3:dG pl (r1.length+1) (.cons n .nil) r1 with
    | none=>rw [e3] at h;cases h
    | some y =>
     obtain ⟨ks',r2⟩:=y;rw [e3] at h
     unfold pClose at h;dsimp only at h;by_cases c3:r2.head?=some 41
     ·rw [if_pos c3] at h
      cases h
      refine Jw g ?_ e3;have:=g _ _ _ e2
      cases d<;>exact ⟨this,trivial⟩
     ·rw [if_neg c3] at h;cases h
 ·rw [if_neg c] at h
  cases h
theorem Jy {pb:PB} {d:Nat} (g:∀ r ks r',pb r=some (some ks,r')->fH d ks):∀ r n r',pL pb r=some (n,r')->Ok (d+1) n:=by
 intro r n r' h;have w:∀ {l w x:List Nat},gb l->(∀ c∈w,aG c=true)->pW pb l w x=some (n,r')->Ok (d+1) n:=fun {l w x} hl hw h=>by
  unfold pW at h;by_cases c:gH w=true
  ·rw [if_pos c] at h
   have hW:gw w:=by
    unfold gH at c;rw [Bool.and_eq_true] at c
    exact ⟨of_decide_eq_true c.1,of_decide_eq_true c.2,hw⟩
   cases e:pb x with
   | none=>rw [e] at h;cases h
   | some z =>
    obtain ⟨b,r1⟩:=z;rw [e] at h
    cases h
    cases b with
    | none=>exact ⟨hl,hW⟩
    | some ks=>exact ⟨hl,hW,g _ _ _ e⟩
  ·rw [if_neg c] at h;cases h
 have tw:∀ (x:List Nat),∀ c∈x.takeWhile aG,aG c=true:=fun x c hc=>List.all_eq_true.mp (List.all_takeWhile (l:=x) (p:=aG)) c hc
 unfold pL at h;by_cases c:(r.dropWhile aG).head?=some 58
 ·rw [if_pos c] at h
  by_cases c1:aJ (r.takeWhile aG)=true
  ·rw [if_pos c1] at h
   unfold aJ at c1;rw [Bool.and_eq_true,Bool.and_eq_true] at c1
   exact w ⟨of_decide_eq_true c1.1.2,List.all_eq_true.mp c1.2⟩ (tw _) h
  ·rw [if_neg c1] at h;cases h
 ·rw [if_neg c] at h
  exact w ⟨Nat.zero_le _,by simp⟩ (tw _) h
theorem Jz:∀ (d:Nat) r ks r',gA d r=some (some ks,r')->fH d ks
 | 0,r,ks,r',h=>Jx (pl:=fun _=>none) (fun _ _ _ h=>by cases h) h
 | d+1,r,ks,r',h=>Jx (Jy (Jz d)) h
theorem lO {t:List Nat} {n:Note} (h:parse t=some n):Ok 7 n:=by
 unfold parse at h
 cases e:fU 6 t with
 | none=>rw [e] at h;cases h
 | some z =>
  obtain ⟨m,r⟩:=z;rw [e] at h
  cases r with
  | nil=>cases h;exact Jy (Jz 6) _ _ _ e
  | cons a r=>cases h
end Rd
namespace Rd
def sX (r:List Nat):Prop:=r=[]\/∃ c r',r=c::r'/\(c=41\/c=44)
theorem sX.ws {r:List Nat} (h:sX r):(∀ c,r.head?=some c->aG c=false)/\r.head?≠some 58/\r.head?≠some 40:=by
 rcases h with rfl | ⟨c,r',rfl,rfl | rfl⟩
 ·exact ⟨(fun c h=>by cases h),by simp,by simp⟩
 ·exact ⟨(fun c h=>by cases h;decide),by simp,by simp⟩
 ·exact ⟨(fun c h=>by cases h;decide),by simp,by simp⟩
theorem JB {a r:List Nat} (h:∀ c∈a,aG c=true) (hr:∀ c,r.head?=some c->aG c=false):(a++r).takeWhile aG=a/\(a++r).dropWhile aG=r:=by
 have e:r.takeWhile aG=[]/\r.dropWhile aG=r:=by
  cases r with
  | nil=>exact ⟨rfl,rfl⟩
  | cons c r =>
   have:=hr c rfl;exact ⟨List.takeWhile_cons_of_neg (by simp [this]),List.dropWhile_cons_of_neg (by simp [this])⟩
 rw [List.takeWhile_append_of_pos h,List.dropWhile_append_of_pos h,e.1,e.2];simp
theorem JC {w:List Nat} (h:gw w):gH w=true:=by
 unfold gH;rw [decide_eq_true h.1,decide_eq_true h.2.1];rfl
theorem yR {pb:PB} {l w r:List Nat} (hl:gb l) (hw:gw w) (hr:∀ c,r.head?=some c->aG c=false) (yN:r.head?≠some 58):pL pb (head l w++r)=qQ l w (pb r):=by
 obtain ⟨e1,e2⟩:=JB hw.2.2 hr;unfold pL head;by_cases c:l=[]
 ·rw [if_pos c,e1,e2,if_neg yN]
  unfold pW;rw [if_pos (JC hw),c]
 ·rw [if_neg c]
  have h1:∀ c,(58::(w++r)).head?=some c->aG c=false:=fun c h=>by cases h;decide
  obtain ⟨e3,e4⟩:=JB (fun x hx=>iZ (hl.2 x hx)) h1;rw [List.append_assoc,List.cons_append,e3,e4,if_pos (show (58::(w++r)).head?=some 58 from rfl),if_pos,List.drop_succ_cons,List.drop_zero,e1,e2]
  ·unfold pW
   rw [if_pos (JC hw)]
  ·have h2:1<=l.length:=by
    cases l with
    | nil=>exact (c rfl).elim
    | cons x l=>simp
   unfold aJ;rw [decide_eq_true h2,decide_eq_true hl.1,List.all_eq_true.mpr hl.2];rfl
def Notes.app:Notes->Notes->Notes
 | .nil,b=>b
 | .cons n r,b => .cons n (r.app b)
theorem JD:∀ (a b:Notes) (n:Note),(a.snoc n).app b=a.app (.cons n b)
 | .nil,_,_=>rfl
 | .cons m r,b,n=>congrArg (Notes.cons m) (JD r b n)
theorem JF:∀ a:Notes,a.app .nil=a
 | .nil=>rfl
 | .cons m r=>congrArg (Notes.cons m) (JF r)
theorem Yh6 {d:Nat} {n:Note} (h:Ok d n):∃ c r,txt n=c::r/\aG c=true:=by
 have key:∀ {l w:List Nat},gb l->gw w->∃ c r,head l w=c::r/\aG c=true:=fun {l w} hl hw=>by
  unfold head;by_cases c:l=[]
  ·rw [if_pos c]
   match w,hw with
   | x::w,hw=>exact ⟨x,w,rfl,hw.2.2 x (by simp)⟩
  ·rw [if_neg c]
   match l,c,hl with
   | x::l,_,hl=>exact ⟨x,_,rfl,iZ (hl.2 x (by simp))⟩
 cases n with
 | leaf l w =>
  have h':gb l/\gw w:=by cases d<;>exact h
  exact key h'.1 h'.2
 | node l w ks =>
  match d,h with
  | d+1,h =>
   obtain ⟨c,r,e,hc⟩:=key h.1 h.2.1;exact ⟨c,r++40::(cB ks++[41]),by show head l w++_=_;rw [e];rfl,hc⟩
def tl:Notes->List Nat
 | .nil=>[]
 | .cons n r=>44::(txt n++tl r)
theorem JG:∀ (n:Note) (ks:Notes),cB (.cons n ks)=txt n++tl ks
 | n,.nil=>by simp [cB,tl]
 | n,.cons m ks=>by
  show txt n++44::cB (.cons m ks)=txt n++44::(txt m++tl ks)
  rw [JG m ks]
theorem JH {r:List Nat} (h:∃ r',r=41::r'):∀ ks:Notes,sX (tl ks++r)
 | .nil=>by obtain ⟨r',rfl⟩:=h;exact .inr ⟨41,r',rfl,.inl rfl⟩
 | .cons n ks => .inr ⟨44,_,rfl,.inr rfl⟩
mutual
theorem yS:∀ (d:Nat) (n:Note) (r:List Nat),Ok d n->sX r->fU d (txt n++r)=some (n,r)
 | d,.leaf l w,r,h,hs=>by
  have h':gb l/\gw w:=by cases d<;>exact h
  obtain ⟨s1,s2,s3⟩:=hs.ws
  show pL (gA d) (head l w++r)=_
  rw [yR h'.1 h'.2 s1 s2];have:gA d r=some (none,r):=by
   cases d<;>(show pB _ r=_;unfold pB;rw [if_neg s3])
  rw [this];rfl
 | 0,.node l w ks,r,h,hs=>h.elim
 | d+1,.node l w .nil,r,h,hs=>by
  obtain ⟨hl,hw,hk⟩:=h
  show pL (gA (d+1)) ((head l w++40::(cB .nil++[41]))++r)=_
  rw [List.append_assoc,yR hl hw (fun c h=>by cases h;decide) (by simp)];rfl
 | d+1,.node l w (.cons n ks),r,h,hs=>by
  obtain ⟨hl,hw,hk⟩:=h
  show pL (gA (d+1)) ((head l w++40::(cB (.cons n ks)++[41]))++r)=_
  rw [List.append_assoc,yR hl hw (fun c h=>by cases h;decide) (by simp),JG];have e0:(40::(txt n++tl ks++[41]))++r=40::(txt n++(tl ks++41::r)):=by simp
  obtain ⟨c,x,ec,hc⟩:=Yh6 hk.1;have e1:=yS d n (tl ks++41::r) hk.1 (JH ⟨r,rfl⟩ ks);have e2:=JK d ks (41::r) hk.2 ⟨r,rfl⟩ (.cons n .nil) ((tl ks++41::r).length+1) (by omega);have e:gA (d+1) (40::(txt n++(tl ks++41::r)))=some (some (.cons n ks),r):=by
   show pB (fU d) _=_
   unfold pB;rw [if_pos (show (40::(txt n++(tl ks++41::r))).head?=some 40 from rfl),if_neg]
   ·show kE (fU d) (txt n++(tl ks++41::r))=_
    unfold kE;rw [e1];dsimp only;rw [e2];rfl
   ·show ¬ (txt n++(tl ks++41::r)).head?=some 41
    rw [ec];intro z;have:c=41:=by simpa using z
    rw [this] at hc
    exact absurd hc (by decide)
  rw [e0,e];rfl
theorem JK:∀ (d:Nat) (ks:Notes) (r:List Nat),fH d ks->(∃ r',r=41::r')->∀ (acc:Notes) (f:Nat),(tl ks++r).length<f->dG (fU d) f acc (tl ks++r)=some (acc.app ks,r)
 | d,.nil,r,_,⟨r',hr⟩,acc,f,hf=>by
  match f,hf with
  | f+1,_ =>
   subst hr
   show dG (fU d) (f+1) acc (41::r')=_
   rw [dG,if_neg (by simp),JF]
 | d,.cons n ks,r,h,hr,acc,f,hf=>by
  match f,hf with
  | f+1,hf =>
   have e0:tl (.cons n ks)++r=44::(txt n++(tl ks++r)):=by simp [tl]
   have e1:=yS d n (tl ks++r) h.1 (JH hr ks);rw [e0] at hf ⊢
   rw [dG,if_pos (show (44::(txt n++(tl ks++r))).head?=some 44 from rfl)]
   show (match fU d (txt n++(tl ks++r)) with
    | some (n,r')=>dG (fU d) f (acc.snoc n) r'
    | none=>none)=_
   rw [e1];dsimp only;rw [JK d ks r h.2 hr (acc.snoc n) f (by simp only [List.length_cons,List.length_append] at hf ⊢;omega),JD]
end
theorem pY {n:Note} (h:Ok 6 n):parse (txt n)=some n:=by
 have:=yS 6 n [] h (.inl rfl);rw [List.append_nil] at this
 unfold parse;rw [this];rfl
end Rd
inductive Mk
 | use | whole | text | row | many | rising | unlike | alike | pick
 deriving DecidableEq
def Mk.s:Mk->String
 | .use=>"use" | .whole=>"whole" | .text=>"text" | .row=>"row" | .many=>"many" | .rising=>"rising" | .unlike=>"unlike" | .alike=>"alike" | .pick=>"pick"
def ms (m:Mk):Str:=Str.ofString m.s
theorem Wx (m m':Mk):(ms m=ms m')=(m=m'):=by
 cases m<;>cases m'<;>simp only [eq_iff_iff,reduceCtorEq,iff_false,iff_true]<;>decide +kernel
theorem yU:Str.ofString "use"=ms .use:=rfl
theorem Yhl:Str.ofString "whole"=ms .whole:=rfl
theorem Yh7:Str.ofString "text"=ms .text:=rfl
theorem CK:Str.ofString "row"=ms .row:=rfl
theorem JL:Str.ofString "many"=ms .many:=rfl
theorem JM:Str.ofString "rising"=ms .rising:=rfl
theorem JN:Str.ofString "unlike"=ms .unlike:=rfl
theorem JQ:Str.ofString "alike"=ms .alike:=rfl
theorem Yh8:Str.ofString "pick"=ms .pick:=rfl
def mc (m:Mk):List Nat:=(ms m).cps.toList
theorem XS (m:Mk):ms m=S (mc m):=by unfold mc S;simp
theorem JR {m m':Mk} (h:mc m=mc m'):m=m':=by
 have:ms m=ms m':=by rw [XS,XS,h]
 rwa [Wx] at this
theorem Wa (m:Mk):3<=(mc m).length/\(mc m).length<=6:=by cases m<;>decide +kernel
theorem Yh9 (x:V):inV x []=false:=rfl
theorem Yhm (a b:Mk) (l:List V):inV (.str (ms a)) (.str (ms b)::l)=(decide (b=a)||inV (.str (ms a)) l):=by
 have:gq (.str (ms b)) (.str (ms a))=decide (b=a):=by
  have h:=Wx b a;simp only [gq];by_cases e:b=a
  ·subst e;simp
  ·have e':ms b≠ms a:=fun z=>e (h▸z)
   simp [e,e']
 rw [inV,List.any_cons,this];rfl
mutual
inductive Sh where
 | use (w:List Nat)
 | whole (i j:Int)
 | text (w:List Nat)
 | row (ks:aH)
 | pick (ks:aH)
 | one (m:Mk) (s:Sh)
 | alike (s:Sh) (t:Nat)
inductive aH where
 | nil
 | cons (l:List Nat) (s:Sh) (r:aH)
end
def aH.list:aH->List (List Nat×Sh)
 | .nil=>[]
 | .cons l s r=>(l,s)::r.list
def is1 (m:Mk):Prop:=m = .many\/m = .rising\/m = .unlike
instance (m:Mk):Decidable (is1 m):=by unfold is1;infer_instance
mutual
def dp:Sh->Nat
 | .use _=>0
 | .whole _ _=>0
 | .text _=>0
 | .row ks=>jx ks+1
 | .pick ks=>jx ks+1
 | .one _ s=>dp s+1
 | .alike s _=>dp s+1
def jx:aH->Nat
 | .nil=>0
 | .cons _ s r=>max (dp s) (jx r)
end
mutual
def nt (l:List Nat):Sh->Rd.Note
 | .use w => .leaf l w
 | .whole i j => .node l (mc .whole) (.cons (.leaf [] (dg i)) (.cons (.leaf [] (dg j)) .nil))
 | .text w => .node l (mc .text) (.cons (.leaf [] w) .nil)
 | .row ks => .node l (mc .row) (gQ ks)
 | .pick ks => .node l (mc .pick) (gQ ks)
 | .one m s => .node l (mc m) (.cons (nt [] s) .nil)
 | .alike s t => .node l (mc .alike) (.cons (nt [] s) (.cons (.leaf [] (dg (t:Int))) .nil))
def gQ:aH->Rd.Notes
 | .nil => .nil
 | .cons l s r => .cons (nt l s) (gQ r)
end
abbrev tt (s:Sh):List Nat:=Rd.txt (nt [] s)
mutual
def Gd:Sh->Prop
 | .use w=>Rd.aJ w=true
 | .whole i j=>i.natAbs<10^60/\j.natAbs<10^60
 | .text w=>1<=w.length/\w.length<=62/\w.all Rd.cC=true
 | .row ks=>ks.list.length<=8/\kI ks
 | .pick ks=>1<=ks.list.length/\ks.list.length<=10/\kJ ks
 | .one m s=>is1 m/\Gd s
 | .alike s t=>1<=t/\t<=6/\Gd s
def kI:aH->Prop
 | .nil=>True
 | .cons l s r=>l=[]/\Gd s/\kI r
def kJ:aH->Prop
 | .nil=>True
 | .cons l s r=>Rd.aJ l=true/\Gd s/\kJ r
end
mutual
def SA (H:Hp):Sh->V->Prop
 | .use w,v=>∃ a,v = .ref a/\H a=some (.tup [.str (ms .use),.str (S w)])
 | .whole i j,v=>∃ a,v = .ref a/\H a=some (.tup [.str (ms .whole),.int i,.int j])
 | .text w,v=>∃ a,v = .ref a/\H a=some (.tup [.str (ms .text),.str (S w)])
 | .row ks,v=>∃ a b vs,v = .ref a/\H a=some (.tup [.str (ms .row),.ref b])/\H b=some (.tup vs)/\KA H ks vs
 | .pick ks,v=>∃ a b vs,v = .ref a/\H a=some (.tup [.str (ms .pick),.ref b])/\H b=some (.tup vs)/\KB H ks vs
 | .one m s,v=>∃ a w,v = .ref a/\H a=some (.tup [.str (ms m),w])/\SA H s w
 | .alike s t,v=>∃ a w,v = .ref a/\H a=some (.tup [.str (ms .alike),w,.int (t:Nat)])/\SA H s w
def KA (H:Hp):aH->List V->Prop
 | .nil,vs=>vs=[]
 | .cons _ s r,vs=>∃ v us,vs=v::us/\SA H s v/\KA H r us
def KB (H:Hp):aH->List V->Prop
 | .nil,vs=>vs=[]
 | .cons l s r,vs=>∃ b w us,vs = .ref b::us/\H b=some (.tup [.str (S l),w])/\SA H s w/\KB H r us
end
def Tk (H H':Hp):Prop:=∀ (a:Addr) (ys:List V),H a=some (.tup ys)->H' a=some (.tup ys)
theorem Tk.trans {H H' aL:Hp} (a:Tk H H') (b:Tk H' aL):Tk H aL:=fun _ _ h=>b _ _ (a _ _ h)
theorem Tk.of {H H':Hp} (s:Same H H'):Tk H H':=fun _ _ h=>s _ _ h
mutual
theorem SA.keep {H H':Hp} (t:Tk H H'):∀ {s:Sh} {v:V},SA H s v->SA H' s v
 | .use _,_,⟨a,e,h⟩=>⟨a,e,t _ _ h⟩
 | .whole _ _,_,⟨a,e,h⟩=>⟨a,e,t _ _ h⟩
 | .text _,_,⟨a,e,h⟩=>⟨a,e,t _ _ h⟩
 | .row _,_,⟨a,b,vs,e,h1,h2,h3⟩=>⟨a,b,vs,e,t _ _ h1,t _ _ h2,KA.keep t h3⟩
 | .pick _,_,⟨a,b,vs,e,h1,h2,h3⟩=>⟨a,b,vs,e,t _ _ h1,t _ _ h2,KB.keep t h3⟩
 | .one _ _,_,⟨a,w,e,h1,h3⟩=>⟨a,w,e,t _ _ h1,SA.keep t h3⟩
 | .alike _ _,_,⟨a,w,e,h1,h3⟩=>⟨a,w,e,t _ _ h1,SA.keep t h3⟩
theorem KA.keep {H H':Hp} (t:Tk H H'):∀ {ks:aH} {vs:List V},KA H ks vs->KA H' ks vs
 | .nil,_,e=>e
 | .cons _ _ _,_,⟨v,us,e,h1,h2⟩=>⟨v,us,e,SA.keep t h1,KA.keep t h2⟩
theorem KB.keep {H H':Hp} (t:Tk H H'):∀ {ks:aH} {vs:List V},KB H ks vs->KB H' ks vs
 | .nil,_,e=>e
 | .cons _ _ _,_,⟨b,w,us,e,h0,h1,h2⟩=>⟨b,w,us,e,t _ _ h0,SA.keep t h1,KB.keep t h2⟩
end
theorem KA.iff {H:Hp}:∀ {ks:aH} {vs:List V},KA H ks vs↔vs.length=ks.list.length/\∀ (i:Nat) v p,vs[i]?=some v->ks.list[i]?=some p->SA H p.2 v
 | .nil,vs=>by
  simp only [KA,aH.list];constructor
  ·rintro rfl
   exact ⟨rfl,fun i v p h=>by simp at h⟩
  ·rintro ⟨h,_⟩
   exact List.length_eq_zero_iff.mp h
 | .cons l s r,vs=>by
  simp only [KA,aH.list];constructor
  ·rintro ⟨v,us,rfl,h1,h2⟩
   obtain ⟨h3,h4⟩:=KA.iff.mp h2;refine ⟨by simp [h3],fun i x p hx hp=>?_⟩
   match i with
   | 0=>cases hx;cases hp;exact h1
   | i+1=>exact h4 i x p (by simpa using hx) (by simpa using hp)
  ·rintro ⟨h1,h2⟩
   match vs,h1 with
   | v::us,h1=>exact ⟨v,us,rfl,h2 0 v _ rfl rfl,KA.iff.mpr ⟨by simpa using h1,fun i x p hx hp=>h2 (i+1) x p (by simpa using hx) (by simpa using hp)⟩⟩
theorem KB.iff {H:Hp}:∀ {ks:aH} {vs:List V},KB H ks vs↔vs.length=ks.list.length/\∀ (i:Nat) v p,vs[i]?=some v->ks.list[i]?=some p->∃ b w,v = .ref b/\H b=some (.tup [.str (S p.1),w])/\SA H p.2 w
 | .nil,vs=>by
  simp only [KB,aH.list];constructor
  ·rintro rfl
   exact ⟨rfl,fun i v p h=>by simp at h⟩
  ·rintro ⟨h,_⟩
   exact List.length_eq_zero_iff.mp h
 | .cons l s r,vs=>by
  simp only [KB,aH.list];constructor
  ·rintro ⟨b,w,us,rfl,h0,h1,h2⟩
   obtain ⟨h3,h4⟩:=KB.iff.mp h2;refine ⟨by simp [h3],fun i x p hx hp=>?_⟩
   match i with
   | 0=>cases hx;cases hp;exact ⟨b,w,rfl,h0,h1⟩
   | i+1=>exact h4 i x p (by simpa using hx) (by simpa using hp)
  ·rintro ⟨h1,h2⟩
   match vs,h1 with
   | v::us,h1 =>
    obtain ⟨b,w,rfl,h3,h4⟩:=h2 0 v _ rfl rfl;exact ⟨b,w,us,rfl,h3,h4,KB.iff.mpr ⟨by simpa using h1,fun i x p hx hp=>h2 (i+1) x p (by simpa using hx) (by simpa using hp)⟩⟩
theorem JT {ks:aH} {p:List Nat×Sh}:p∈ks.list->dp p.2<=jx ks:=by
 induction ks using aH.rec (motive_1:=fun _=>True) with
 | nil=>intro h;simp [aH.list] at h
 | cons l s r _ ih =>
  intro h;rcases List.mem_cons.mp h with rfl | h
  ·simp only [jx];omega
  ·have:=ih h
   simp only [jx];omega
 | _=>trivial
theorem kI.mem {ks:aH} {p:List Nat×Sh}:kI ks->p∈ks.list->p.1=[]/\Gd p.2:=by
 induction ks using aH.rec (motive_1:=fun _=>True) with
 | nil=>intro _ h;simp [aH.list] at h
 | cons l s r _ ih =>
  rintro ⟨h1,h2,h3⟩ h;rcases List.mem_cons.mp h with rfl | h
  ·exact ⟨h1,h2⟩
  ·exact ih h3 h
 | _=>trivial
theorem kJ.mem {ks:aH} {p:List Nat×Sh}:kJ ks->p∈ks.list->Rd.aJ p.1=true/\Gd p.2:=by
 induction ks using aH.rec (motive_1:=fun _=>True) with
 | nil=>intro _ h;simp [aH.list] at h
 | cons l s r _ ih =>
  rintro ⟨h1,h2,h3⟩ h;rcases List.mem_cons.mp h with rfl | h
  ·exact ⟨h1,h2⟩
  ·exact ih h3 h
 | _=>trivial
def Wf (w:List Nat):Bool:=w==[48]||(decide (1<=(if w.head?=some 45 then w.drop 1 else w).length)&&decide ((if w.head?=some 45 then w.drop 1 else w).length<=60) && !((if w.head?=some 45 then w.drop 1 else w).head?==some 48)&&(if w.head?=some 45 then w.drop 1 else w).all Rd.bx)
theorem UB:∀ (k:Nat) (f:List Nat),f.length=k->1<=k->(∀ c∈f,48<=c/\c<=57)->(f.head?≠some 48\/k=1)->∃ n:Nat,dg (n:Int)=f/\n<10^k
 | 0,_,_,h,_,_=>by omega
 | 1,f,hl,_,hd,_=>by
  match f,hl with
  | [c],_ =>
   obtain ⟨h1,h2⟩:=hd c (by simp);have key:∀ d:Nat,d<10->dg (d:Int)=[48+d]:=by
    intro d hd;rw [Ww,Nat.toDigits_of_lt_base hd];have:∀ d:Nat,d<10->(Nat.digitChar d).toNat=48+d:=by decide
    rw [List.map_cons,List.map_nil,this d hd]
   refine ⟨c - 48,?_,by omega⟩;rw [key (c - 48) (by omega)]
   congr 1
   omega
 | k+2,f,hl,_,hd,hh=>by
  have hne:f≠[]:=by intro z;rw [z] at hl;simp at hl
  obtain ⟨g,c,rfl⟩:∃ g c,f=g++[c]:=⟨f.dropLast,f.getLast hne,(List.dropLast_concat_getLast hne).symm⟩;rw [List.length_append,List.length_singleton] at hl
  have hg:g.head?≠some 48:=by
   rcases hh with hh | hh
   ·cases g with
    | nil=>simp
    | cons x g=>exact hh
   ·omega
  obtain ⟨n,e,hn⟩:=UB (k+1) g (by omega) (by omega) (fun x hx=>hd x (by simp [hx])) (.inl hg);obtain ⟨h1,h2⟩:=hd c (by simp);have hn0:0<n:=by
   rcases Nat.eq_zero_or_pos n with z | z
   ·subst z
    have e0:dg ((0:Nat):Int)=[48]:=by decide +kernel
    rw [e0] at e
    rw [<- e] at hg
    exact (hg rfl).elim
   ·exact z
  refine ⟨10*n+(c - 48),?_,?_⟩
  ·rw [Ww,<- Nat.toDigits_append_toDigits (by decide) hn0 (by omega),List.map_append,<- Ww,e,Nat.toDigits_of_lt_base (by omega)]
   have:∀ d:Nat,d<10->(Nat.digitChar d).toNat=48+d:=by decide
   rw [List.map_cons,List.map_nil,this _ (by omega)]
   congr 2
   omega
  ·rw [Nat.pow_succ]
   omega
theorem yV {f:List Nat} (h:f.all Rd.bx=true):∀ c∈f,48<=c/\c<=57:=fun c hc=>by
 have:=List.all_eq_true.mp h c hc;simpa [Rd.bx] using this
theorem JV {w:List Nat} (h:Wf w=true):∃ i:Int,w=dg i/\i.natAbs<10^60:=by
 unfold Wf at h;rcases (Bool.or_eq_true _ _).mp h with h | h
 ·have e:w=[48]:=by simpa using h
  refine ⟨0,?_,by decide⟩;rw [e]
  decide +kernel
 ·simp only [Bool.and_eq_true,decide_eq_true_eq,Bool.not_eq_true',beq_eq_false_iff_ne] at h
  obtain ⟨⟨⟨h1,h2⟩,h3⟩,h4⟩:=h;by_cases c:w.head?=some 45
  ·rw [if_pos c] at h1 h2 h3 h4
   obtain ⟨n,e,hn⟩:=UB _ _ rfl h1 (yV h4) (.inl h3);have hn0:0<n:=by
    rcases Nat.eq_zero_or_pos n with z | z
    ·subst z
     have e0:dg ((0:Nat):Int)=[48]:=by decide +kernel
     rw [e0] at e
     rw [<- e] at h3
     exact (h3 rfl).elim
    ·exact z
   refine ⟨-(n:Int),?_,?_⟩
   ·rw [Uz hn0,e]
    exact Rd.gF c
   ·rw [Int.natAbs_neg,Int.natAbs_natCast]
    exact Nat.lt_of_lt_of_le hn (Nat.pow_le_pow_right (by decide) h2)
  ·rw [if_neg c] at h1 h2 h3 h4
   obtain ⟨n,e,hn⟩:=UB _ _ rfl h1 (yV h4) (.inl h3);refine ⟨(n:Int),e.symm,?_⟩;rw [Int.natAbs_natCast];exact Nat.lt_of_lt_of_le hn (Nat.pow_le_pow_right (by decide) h2)
def JW (K:PySem.W.Frag):Sp:=fun vs H Q _=>∃ w:List Nat,vs=[.str (S w)]/\w.length<=1000/\∀ H',Same H H'->Q (.bl (Wf w)) H'
theorem O9 (w:List Nat):Txt.startswith (S w) (S [45])=decide (w.head?=some 45):=by
 cases w with
 | nil=>decide +kernel
 | cons a l =>
  have:Txt.startswith (S (a::l)) (S [45])=decide (a=45):=by
   simp [Txt.startswith,Builtin.Str.subAt,S,Str.length];rfl
  rw [this];simp
theorem Z3E {k:Nat}  (R:g.Raw "is_number_word" "is_number_word" wL ["word"]) (mJ:g.Fn k "is_figure" ["sign"] (Rd.fJ Rd.bx)) (gU:g.mg "all"=none) (aA:g.mg "len"=none) (pZ:g.fY "MOST_FIGURES" (.int 60)):g.Fn (k+1) "is_number_word" ["word"] (JW g.K):=by
 refine R.fn Hy (fun vs H Q E h=>by obtain ⟨w,rfl,hl,q⟩:=h;rfl) fun f_ cdv A outer s H vs Q E hr h=>?_
 obtain ⟨w,rfl,hl,q⟩:=h;refine ⟨_,(Yc (Yo (Yk YG (pv 0) Yg (Yl _)) (Yd (Yj W7)) Yi)
   (Yc (YB (i:=1) Hy.nd rfl (.inl rfl) (Rm (Xd (XF PySem.F.plainAttrs_str PySem.F.slot_str_startswith PySem.F.type_str_startswith YeL (pv 0) (Ya Yg Yb))) (Vl vO (pv 0) (WH Ye) QZ) (pv 0)))
   (Yc (Yo (Xr (V3 WT WT Ye (YJ aA Xl (Ya (pv 1) Yb)) (Vc pZ))) (Yd (Yj W7)) Yi)
   (Yd (Yj (Uo (XI UR (Yr vp (pv 1) Ye (fun _ _=>rfl)) Yg (Yl _)) (WV (YJ gU (WK rfl) (Ya (XQ (g:=YD 0) (src:=[none]) (N':=(["sign"]:List Str)) (.own .nil) rfl (QA (pv 1)) (fun cl C s₀ H₀ fp pn=>(Yv (i:=0) (show List.Nodup (["sign"]:List Str) by decide +kernel) rfl (.inl rfl) (.inr rfl))) (fun cl C s₀ H₀ fp pn=>Y4) (fun cl C s₀ H₀ fp pn=>(YM mJ hr (Ya (pv 0) Yb))) (by intro x hx;simp at hx)) Yb))))))))),?_⟩
 have e0:Str.ofString "0"=S [48]:=by decide +kernel
 have em:Str.ofString "-"=S [45]:=by decide +kernel
 have hsw:=Ys w;by_cases hz:w=[48]
 ·subst hz
  have hq:=q H (.refl _);rw [show Wf [48]=true by decide] at hq
  walk_at "rd";exact Xu e0.symm hq
 have hnz:Wf w=(decide (1<=(if w.head?=some 45 then w.drop 1 else w).length)&&decide ((if w.head?=some 45 then w.drop 1 else w).length<=60) && !((if w.head?=some 45 then w.drop 1 else w).head?==some 48)&&(if w.head?=some 45 then w.drop 1 else w).all Rd.bx):=by
  unfold Wf;rw [show (w==[48])=false by simpa using hz,Bool.false_or]
 refine Uw (fun σ H'=>σ=[some (.str (S w)),some (.str (S (if w.head?=some 45 then w.drop 1 else w)))]/\H'=H) ?_ ?_
 ·rintro σ H' ⟨rfl,rfl⟩
  have hfl:(if w.head?=some 45 then w.drop 1 else w).length<=1000:=by
   split
   ·rw [List.length_drop];omega
   ·exact hl
  generalize (if w.head?=some 45 then w.drop 1 else w)=f at hnz hfl;have hsf:=Ys f;walk_at "rd";refine ⟨few (by omega),Yw (fun c1=>Yw (fun c2=>?_) fun c2=>?_) fun c1=>?_⟩
  ·have hq:=q H' (.refl _)
   rw [hnz,show decide (f.length<=60)=false from decide_eq_false (by omega)] at hq
   simpa using hq
  ·match f,hsf,c1,c2,hnz,hfl with
   | c::r,hsf,c1,c2,hnz,hfl =>
    refine ⟨_,0,c,rfl,rfl,few (by omega),?_,rfl,Yw (fun cz=>?_) fun cz=>?_⟩
    ·rw [YZ]
     exact Yz (xs:=c::r) (j:=0) rfl
    ·have hc:c≠48:=fun z=>cz (by rw [z,e0];rfl)
     refine Gn (l:=c::r) (((c::r).map Rd.bx).map V.bl) (fun R r=>by walk_at "rd";exact r) (by simp) (by simp at hfl ⊢;omega) ?_ ?_
     ·intro j d y H1 hd hy sm R rr
      rw [List.getElem?_map,List.getElem?_map,hd] at hy
      have:V.bl (Rd.bx d)=y:=Option.some.inj hy;subst this;walk_at "rd";refine ⟨[d],rfl,by simp,?_⟩;rw [show ([d]:List Nat).any Rd.bx=Rd.bx d by simp];exact rr H1 (.refl _)
     ·intro D H1 hD sm hd
      refine ⟨D,rfl,_,au.of hd,?_⟩;have hq:=q H1 sm;rw [hnz,show decide (1<=(c::r).length)=true from decide_eq_true (by omega),show decide ((c::r).length<=60)=true from decide_eq_true (by omega),show ((c::r).head?==some 48)=false by simpa using hc] at hq
      rw [show ((c::r).map Rd.bx).all id=(c::r).all Rd.bx by rw [List.all_map];rfl];simpa using hq
    ·have hc:c=48:=by
      have sY:V.str ⟨#[c]⟩=V.str (Str.ofString "0"):=Classical.not_not.mp cz;rw [e0] at sY
      injection sY with sY
      have:=Y8 (a:=[c]) (b:=[48]) sY;simpa using this
     have hq:=q H' (.refl _);rw [hnz,show ((c::r).head?==some 48)=true by simpa using hc] at hq
     simpa using hq
  ·have hq:=q H' (.refl _)
   rw [hnz,show decide (1<=f.length)=false from decide_eq_false (by omega)] at hq
   simpa using hq
 ·intro N hN
  walk_at "rd";refine Xc (fun z=>hz ?_) ⟨rfl,_,_,rfl,rfl,?_⟩
  ·rw [e0] at z
   exact Y8 z
  ·rw [em,O9]
   refine ⟨_,rfl,?_⟩;by_cases c:w.head?=some 45
   ·rw [decide_eq_true c]
    rw [if_pos c] at hN
    refine Xu rfl ⟨_,rfl,few (by omega),?_⟩;have:=T3 w 1;rw [show ((1:Nat):Int)=1 from rfl] at this
    rw [this];exact hN _ _ ⟨rfl,rfl⟩
   ·rw [decide_eq_false c]
    rw [if_neg c] at hN
    exact Xc (by decide) (hN _ _ ⟨rfl,rfl⟩)
namespace Rd
def Notes.list:Notes->List Note
 | .nil=>[]
 | .cons n r=>n::r.list
theorem Notes.len_list:∀ ks:Notes,ks.list.length=ks.len
 | .nil=>rfl
 | .cons _ r=>congrArg (·+1) r.len_list
theorem aM.iff {H:Hp}:∀ {ks:Notes} {vs:List V},aM H ks vs↔vs.length=ks.len/\∀ (i:Nat) v n,vs[i]?=some v->ks.list[i]?=some n->cD H n v
 | .nil,vs=>by
  simp only [aM,Notes.list,Notes.len];constructor
  ·rintro rfl
   exact ⟨rfl,fun i v p h=>by simp at h⟩
  ·rintro ⟨h,_⟩
   exact List.length_eq_zero_iff.mp h
 | .cons n r,vs=>by
  simp only [aM,Notes.list,Notes.len];constructor
  ·rintro ⟨v,us,rfl,h1,h2⟩
   obtain ⟨h3,h4⟩:=aM.iff.mp h2;refine ⟨by simp [h3],fun i x p hx hp=>?_⟩
   match i with
   | 0=>cases hx;cases hp;exact h1
   | i+1=>exact h4 i x p (by simpa using hx) (by simpa using hp)
  ·rintro ⟨h1,h2⟩
   match vs,h1 with
   | v::us,h1=>exact ⟨v,us,rfl,h2 0 v _ rfl rfl,aM.iff.mpr ⟨by simpa using h1,fun i x p hx hp=>h2 (i+1) x p (by simpa using hx) (by simpa using hp)⟩⟩
theorem fH.mem {d:Nat}:∀ {ks:Notes} {n:Note},fH d ks->n∈ks.list->Ok d n
 | .cons m r,n,h,hn=>by
  rcases List.mem_cons.mp hn with rfl | hn
  ·exact h.1
  ·exact fH.mem h.2 hn
 | .nil,n,_,hn=>by cases hn
theorem cD.same {H H':Hp} (s:Same H H') {n:Note} {v:V} (h:cD H n v):cD H' n v:=h.keep fun b xs e=>s b _ e
theorem aM.same {H H':Hp} (s:Same H H') {n:Notes} {v:List V} (h:aM H n v):aM H' n v:=h.keep fun b xs e=>s b _ e
def Note.un:Note->Note
 | .leaf _ w => .leaf [] w
 | .node _ w ks => .node [] w ks
theorem Ok.un {d:Nat} {n:Note} (h:Ok d n):Ok d n.un:=by
 cases n with
 | leaf l w =>
  have h':gb l/\gw w:=by cases d<;>exact h
  cases d<;>exact ⟨⟨Nat.zero_le _,fun c h=>by cases h⟩,h'.2⟩
 | node l w ks =>
  match d,h with
  | d+1,h=>exact ⟨⟨Nat.zero_le _,fun c h=>by cases h⟩,h.2⟩
theorem Ok.wd {d:Nat} {l w:List Nat} (h:Ok d (.leaf l w)):w.length<=62/\l.length<=8:=by
 have h':gb l/\gw w:=by cases d<;>exact h
 exact ⟨h'.2.2.1,h'.1.1⟩
end Rd
def Wy:Rd.Note->Option Int
 | .leaf [] w=>if Wf w=true then intText? (S w) else none
 | _=>none
theorem UC {n:Rd.Note} {i:Int} (h:Wy n=some i):∃ w,n = .leaf [] w/\w=dg i/\i.natAbs<10^60/\Wf w=true:=by
 match n,h with
 | .leaf [] w,h =>
  rw [Wy] at h
  by_cases c:Wf w=true
  ·rw [if_pos c] at h
   obtain ⟨j,e,hj⟩:=JV c;rw [e,wg (Nat.lt_trans hj (by decide +kernel))] at h
   cases h
   exact ⟨w,rfl,e,hj,c⟩
  ·rw [if_neg c] at h;cases h
theorem JX {w:List Nat} {i:Int} (h:Wf w=true) (e:w=dg i) (hi:i.natAbs<10^60):Wy (.leaf [] w)=some i:=by
 rw [Wy,if_pos h,e];exact wg (Nat.lt_trans hi (by decide +kernel))
def kO:Rd.Notes->Option Sh
 | .cons a (.cons b .nil)=>match Wy a,Wy b with
  | some i,some j=>some (.whole i j)
  | _,_=>none
 | _=>none
def jL:Rd.Notes->Option Sh
 | .cons (.leaf [] w) .nil=>if w.all Rd.cC=true then some (.text w) else none
 | _=>none
def p7:Rd.Notes->Option Int
 | .cons _ (.cons b _)=>Wy b
 | _=>none
def jM (k:Nat):Option Int->Option Sh->Option Sh
 | some t,some s=>if k=2/\1<=t/\t<=6 then some (.alike s t.toNat) else none
 | _,_=>none
def put (l:List Nat):Option Sh->Option aH->Option aH
 | some s,some r=>some (.cons l s r)
 | _,_=>none
mutual
def dn:Rd.Note->Option Sh
 | .leaf _ w=>if Rd.aJ w=true then some (.use w) else none
 | .node _ w ks =>
  if w=mc .whole then kO ks
  else if w=mc .text then jL ks
  else if w=mc .row then (if ks.len<=8 then (iV ks).map .row else none)
  else if w=mc .many then (if ks.len=1 then (gB ks).map (.one .many) else none)
  else if w=mc .rising then (if ks.len=1 then (gB ks).map (.one .rising) else none)
  else if w=mc .unlike then (if ks.len=1 then (gB ks).map (.one .unlike) else none)
  else if w=mc .alike then jM ks.len (p7 ks) (gB ks)
  else if w=mc .pick then (if 1<=ks.len/\ks.len<=10 then (iW ks).map .pick else none)
  else none
def gB:Rd.Notes->Option Sh
 | .nil=>none
 | .cons n _=>if n.bQ=[] then dn n else none
def iV:Rd.Notes->Option aH
 | .nil=>some .nil
 | .cons n r=>put [] (if n.bQ=[] then dn n else none) (iV r)
def iW:Rd.Notes->Option aH
 | .nil=>some .nil
 | .cons n r=>put n.bQ (if n.bQ=[] then none else dn n) (iW r)
end
def dl (n:Rd.Note):Option Sh:=if n.bQ=[] then dn n else none
def db (n:Rd.Note):Option Sh:=if n.bQ=[] then none else dn n
theorem JZ (n:Rd.Note):dl n.un=dn n:=by
 cases n<;>simp [dl,Rd.Note.un,Rd.Note.bQ,dn]
theorem J0 {n:Rd.Note}:∀ {ks:Rd.Notes},n∈ks.list->dl n=none->iV ks=none
 | .cons m r,h,e=>by
  rw [iV];rcases List.mem_cons.mp h with rfl | h
  ·rw [show (if n.bQ=[] then dn n else none)=none from e];rfl
  ·rw [J0 h e]
   cases (if m.bQ=[] then dn m else none)<;>rfl
 | .nil,h,_=>by cases h
theorem J1 {n:Rd.Note}:∀ {ks:Rd.Notes},n∈ks.list->db n=none->iW ks=none
 | .cons m r,h,e=>by
  rw [iW];rcases List.mem_cons.mp h with rfl | h
  ·rw [show (if n.bQ=[] then none else dn n)=none from e];rfl
  ·rw [J1 h e]
   cases (if m.bQ=[] then none else dn m)<;>rfl
 | .nil,h,_=>by cases h
theorem J2 {H:Hp}:∀ {ks:Rd.Notes} {ys:List V},ys.length=ks.len->(∀ (i:Nat) y n,ys[i]?=some y->ks.list[i]?=some n->∃ s,dl n=some s/\SA H s y)->∃ k,iV ks=some k/\KA H k ys
 | .nil,ys,h,_=>⟨.nil,rfl,List.length_eq_zero_iff.mp h⟩
 | .cons n r,ys,h,hs=>by
  match ys,h with
  | y::ys,h =>
   obtain ⟨s,e1,h1⟩:=hs 0 y n rfl rfl;obtain ⟨k,e2,h2⟩:=J2 (ks:=r) (ys:=ys) (by simpa [Rd.Notes.len] using h) fun i y n a b=>hs (i+1) y n (by simpa using a) (by simpa [Rd.Notes.list] using b)
   refine ⟨.cons [] s k,?_,y,ys,rfl,h1,h2⟩;rw [iV,show (if n.bQ=[] then dn n else none)=some s from e1,e2];rfl
theorem J3 {H:Hp}:∀ {ks:Rd.Notes} {ys:List V},ys.length=ks.len->(∀ (i:Nat) y n,ys[i]?=some y->ks.list[i]?=some n->∃ s b w,db n=some s/\y = .ref b/\H b=some (.tup [.str (S n.bQ),w])/\SA H s w)->∃ k,iW ks=some k/\KB H k ys
 | .nil,ys,h,_=>⟨.nil,rfl,List.length_eq_zero_iff.mp h⟩
 | .cons n r,ys,h,hs=>by
  match ys,h with
  | y::ys,h =>
   obtain ⟨s,b,w,e1,rfl,h0,h1⟩:=hs 0 y n rfl rfl;obtain ⟨k,e2,h2⟩:=J3 (ks:=r) (ys:=ys) (by simpa [Rd.Notes.len] using h) fun i y n a b=>hs (i+1) y n (by simpa using a) (by simpa [Rd.Notes.list] using b)
   refine ⟨.cons n.bQ s k,?_,b,w,ys,rfl,h0,h1,h2⟩;rw [iW,show (if n.bQ=[] then none else dn n)=some s from e1,e2];rfl
def yW (CN:Addr):Sp:=fun vs H Q E=>∃ (n:Rd.Note) (v:V),vs=[v]/\Rd.cD H n v/\(∀ w,n = .leaf [] w->Q (.str (S w)) H)/\((∀ w,n ≠ .leaf [] w)->E (.ref CN) none H)
theorem Ycb {Z0:Addr} (R:g.Raw "lone_word" "lone_word" wM ["note"]) (aj:g.mg "NoNote"=some (.ref Z0)) (ak:PySem.W.excIn g.K Z0 YU "ValueError.__new__"=true):g.aK (1) "lone_word" ["note"] (yW Z0):=by
 refine R.fnX YbP (fun vs H Q E h=>by obtain ⟨n,v,rfl,hv,q,qe⟩:=h;rfl) fun f_ cdv A outer s H vs Q E hr h=>?_
 obtain ⟨n,v,rfl,hv,q,qe⟩:=h;refine ⟨_,(Yc (Yo (VZ (Yk UR (Yr Yx (pv 0) Ye (fun _ _=>rfl)) Yg (Yl _)) (Vk (Yk Eb (Yr Yx (pv 0) Ye (fun _ _=>rfl)) Wn (Yl _)))).pt (Yd (YK ⟨aj,ak⟩ Y0 (Ya Yg Yb))) Yi)
   (Yd (PS.cO (Yj (Yr Yx (pv 0) Ye (fun _ _=>rfl)))))),?_⟩
 have e0:Str.ofString ""=S []:=by decide +kernel
 cases n with
 | leaf l w =>
  obtain ⟨a,rfl,ha⟩:=hv;walk_at "rd";refine ⟨_,aD.of ha,_,rfl,rfl,Yw (fun c=>⟨few (by decide),qe fun w' z=>?_⟩) fun c=>⟨_,aD.of ha,_,rfl,Xc (by simp) ⟨_,aD.of ha,_,rfl,q w ?_⟩⟩⟩
  ·cases z
   exact c (by rw [e0])
  ·have:S l=S []:=by rw [<- e0];exact Classical.byContradiction fun z=>c fun y=>z (V.str.inj y)
   rw [Y8 this]
 | node l w ks =>
  obtain ⟨a,b,us,rfl,ha,hb,hn⟩:=hv;walk_at "rd";refine ⟨_,aD.of ha,_,rfl,rfl,Yw (fun c=>⟨few (by decide),qe fun w' z=>?_⟩) fun c=>⟨_,aD.of ha,_,rfl,Xu (by simp) ⟨few (by decide),qe fun w' z=>?_⟩⟩⟩
  ·cases z
  ·cases z
def Zp (CN:Addr):Sp:=fun vs H Q E=>∃ (b:Addr) (us:List V) (lo hi:Int),vs=[.ref b,.int lo,.int hi]/\H b=some (.tup us)/\(lo<=us.length/\(us.length:Int)<=hi->Q .non H)/\(¬ (lo<=us.length/\(us.length:Int)<=hi)->E (.ref CN) none H)
theorem Z2o {Z0:Addr} (R:g.Raw "refuse_other_length" "refuse_other_length" wO ["notes","least","most"]) (aA:g.mg "len"=none) (aj:g.mg "NoNote"=some (.ref Z0)) (ak:PySem.W.excIn g.K Z0 YU "ValueError.__new__"=true):g.aK (1) "refuse_other_length" ["notes","least","most"] (Zp Z0):=by
 refine R.fnX Z2i (fun vs H Q E h=>by obtain ⟨b,us,lo,hi,rfl,hb,q,qe⟩:=h;rfl) fun f_ cdv A outer s H vs Q E hr h=>?_
 obtain ⟨b,us,lo,hi,rfl,hb,q,qe⟩:=h;refine ⟨_,(Yd (Yo (Xr (V3 WT WT (pv 1) (YJ aA YN (Ya (pv 0) Yb)) (pv 2))) (Yd (YK ⟨aj,ak⟩ Y0 (Ya Yg Yb))) Yi)),?_⟩;walk_at "rd";exact ⟨_,.inr (aD.of hb),Yw (fun c1=>Yw (fun c2=>⟨few (by decide),qe (by omega)⟩) fun c2=>q (by omega)) fun c1=>⟨few (by decide),qe (by omega)⟩⟩
def yX (K:PySem.W.Frag) (CN:Addr):Sp:=fun vs H Q E=>∃ (n:Rd.Note) (v:V) (d:Nat),vs=[v]/\Rd.cD H n v/\Rd.Ok d n/\(∀ i H',Same H H'->Wy n=some i->Q (.int i) H')/\(Wy n=none->∀ H',Same H H'->E (.ref CN) none H')
theorem Z3F {k:Nat} {Z0:Addr} (R:g.Raw "number_drafted" "number_drafted" wN ["note"]) (Z47:g.Fn k "is_number_word" ["word"] (JW g.K)) (yZ:g.aK k "lone_word" ["note"] (yW Z0)) (iH:g.mg "int"=none) (aj:g.mg "NoNote"=some (.ref Z0)) (ak:PySem.W.excIn g.K Z0 YU "ValueError.__new__"=true):g.aK (k+1) "number_drafted" ["note"] (yX g.K Z0):=by
 refine R.fnX HB (fun vs H Q E h=>by obtain ⟨n,v,d,rfl,hv,hok,q,qe⟩:=h;rfl) fun f_ cdv A outer s H vs Q E hr h=>?_
 obtain ⟨n,v,d,rfl,hv,hok,q,qe⟩:=h;refine ⟨_,(Yc (YB (i:=1) HB.nd rfl (.inl rfl) (YH yZ hr YO (Ya (pv 0) Yb)))
   (Yc (Yo (Xr (Xd (YM Z47 hr (Ya (pv 1) Yb)))) (Yd (YK ⟨aj,ak⟩ Y0 (Ya Yg Yb))) Yi)
   (Yd (PS.cO (Yj (XZ iH YaT (Ya (pv 1) Yb))))))),?_⟩
 walk_at "rd";refine ⟨n,v,rfl,hv,fun w e=>?_,fun e=>qe ?_ H (.refl _)⟩
 ·subst e
  have hwl:=hok.wd.1;refine ⟨w,rfl,by omega,fun H1 s1=>⟨_,rfl,?_⟩⟩;refine Yw (fun c=>⟨few (by decide),qe ?_ H1 s1⟩) fun c=>?_
  ·rw [Wy,if_neg (by rw [c];decide)]
  ·have hb:Wf w=true:=by
    cases z:Wf w with
    | true=>rfl
    | false=>exact (c z).elim
   obtain ⟨i,e,hi⟩:=JV hb;exact ⟨_,rfl,i,by rw [e];exact wg (Nat.lt_trans hi (by decide +kernel)),by rw [Ys];omega,q i H1 s1 (JX hb e hi)⟩
 ·cases z:Wy n with
  | none=>rfl
  | some i =>
   obtain ⟨w,e1,_⟩:=UC z;exact (e w e1).elim
def J4 (CN:Addr):Sp:=fun vs H Q E=>∃ w:List Nat,vs=[.str (S w)]/\w.length<=1000/\(∀ v H',Rd.aJ w=true->Same H H'->SA H' (.use w) v->Q v H')/\(Rd.aJ w=false->∀ H',Same H H'->E (.ref CN) none H')
theorem Z4T {k:Nat} {Z0:Addr} (R:g.Raw "use_drafted" "use_drafted" wZ ["name"]) (pR:g.Fn k "is_label" ["text"] (Rd.jq)) (aj:g.mg "NoNote"=some (.ref Z0)) (ak:PySem.W.excIn g.K Z0 YU "ValueError.__new__"=true):g.aK (k+1) "use_drafted" ["name"] (J4 Z0):=by
 refine R.fnX Z4R (fun vs H Q E h=>by obtain ⟨w,rfl,hl,q,qe⟩:=h;rfl) fun f_ cdv A outer s H vs Q E hr h=>?_
 obtain ⟨w,rfl,hl,q,qe⟩:=h;refine ⟨_,(Yc (Yo (Xr (Xd (YM pR hr (Ya (pv 0) Yb)))) (Yd (YK ⟨aj,ak⟩ Y0 (Ya Yg Yb))) Yi)
   (Yd (PS.cO (Yj (XJ (Ya Yg (Ya (pv 0) Yb))))))),?_⟩
 walk_at "rd";refine ⟨w,rfl,by omega,fun H1 s1=>⟨_,rfl,Yw (fun c=>⟨few (by decide),qe c H1 s1⟩) fun c=>⟨few (by decide),fun p hp=>?_⟩⟩⟩;have hw:Rd.aJ w=true:=by
  cases z:Rd.aJ w with
  | true=>rfl
  | false=>exact (c z).elim
 exact q _ _ hw (s1.trans (.ao hp _)) ⟨p,rfl,Yf⟩
def Qo (CN:Addr) (f:Rd.Notes->Option Sh) (d:Nat) (ks:Rd.Notes) (b:Addr) (H:Hp) (Q:VK) (E:XK):Prop:=(∃ us,H b=some (.tup us)/\Rd.aM H ks us)/\Rd.fH d ks/\(∀ s v H',f ks=some s->Same H H'->SA H' s v->Q v H')/\(f ks=none->∀ H',Same H H'->E (.ref CN) none H')
def J5 (CN:Addr):Sp:=fun vs H Q E=>∃ (b:Addr) (ks:Rd.Notes) (d:Nat),vs=[.ref b]/\Qo CN kO d ks b H Q E
theorem Z48 {k:Nat} {Z0:Addr} (R:g.Raw "whole_drafted" "whole_drafted" wQ ["notes"]) (sZ:g.aK k "number_drafted" ["note"] (yX g.K Z0)) (Zf:g.aK k "refuse_other_length" ["notes","least","most"] (Zp Z0)):g.aK (k+1) "whole_drafted" ["notes"] (J5 Z0):=by
 refine R.fnX Z46 (fun vs H Q E h=>by obtain ⟨b,ks,d,rfl,⟨us,hb,hn⟩,hok,q,qe⟩:=h;rfl) fun f_ cdv A outer s H vs Q E hr h=>?_
 obtain ⟨b,ks,d,rfl,⟨us,hb,hn⟩,hok,q,qe⟩:=h;refine ⟨_,(Yc (YY (YH Zf hr YO (Ya (pv 0) (Ya Ye (Ya Ye Yb)))))
   (Yd (Yj (XJ (Ya Yg (Ya (YH sZ hr YO (Ya (Yr Yx (pv 0) Ye (fun _ _=>rfl)) Yb)) (Ya (YH sZ hr YO (Ya (Yr Yx (pv 0) Ye (fun _ _=>rfl)) Yb)) Yb))))))),?_⟩
 have bR:=hn.length;walk_at "rd";refine ⟨b,us,2,2,rfl,hb,fun hl=>?_,fun hl=>qe ?_ H (.refl _)⟩
 ·match ks,us,hn,hok,q,qe,hb,bR with
  | .cons x (.cons y .nil),us,⟨u1,aV,e1,h1,u2,gj,e2,h2,e3⟩,hok,q,qe,hb,bR =>
   subst e3 e2 e1;refine ⟨_,aD.of hb,_,rfl,x,u1,d,rfl,h1,hok.1,fun i H1 s1 e1=>?_,fun e1 H1 s1=>qe (by simp only [kO,e1]) H1 s1⟩;refine ⟨_,aD.of (s1 _ _ hb),_,rfl,y,u2,d,rfl,h2.same s1,hok.2.1,fun j H2 s2 e2=>⟨few (by decide),fun p hp=>?_⟩,fun e2 H2 s2=>qe (by simp only [kO,e1,e2]) H2 (s1.trans s2)⟩;exact q (.whole i j) _ _ (by simp only [kO,e1,e2]) ((s1.trans s2).trans (.ao hp _)) ⟨p,rfl,Yf⟩
  | .nil,us,_,_,_,_,_,bR=>rw [bR] at hl;exact absurd hl.1 (by decide)
  | .cons x .nil,us,_,_,_,_,_,bR=>rw [bR] at hl;exact absurd hl.1 (by simp [Rd.Notes.len])
  | .cons x (.cons y (.cons z r)),us,_,_,_,_,_,bR=>rw [bR] at hl;simp [Rd.Notes.len] at hl;omega
 ·match ks,bR with
  | .nil,_=>rfl
  | .cons x .nil,_=>rfl
  | .cons x (.cons y .nil),bR=>rw [bR] at hl;exact absurd hl (by simp [Rd.Notes.len])
  | .cons x (.cons y (.cons z r)),_=>rfl
def J6 (CN:Addr):Sp:=fun vs H Q E=>∃ (b:Addr) (ks:Rd.Notes) (d:Nat),vs=[.ref b]/\Qo CN jL d ks b H Q E
theorem Z4x {k:Nat} {Z0:Addr} (R:g.Raw "text_drafted" "text_drafted" wR ["notes"]) (Z2G:g.Fn k "is_letter_or_figure" ["sign"] (Rd.fJ Rd.cC)) (yZ:g.aK k "lone_word" ["note"] (yW Z0)) (Zf:g.aK k "refuse_other_length" ["notes","least","most"] (Zp Z0)) (gU:g.mg "all"=none) (aj:g.mg "NoNote"=some (.ref Z0)) (ak:PySem.W.excIn g.K Z0 YU "ValueError.__new__"=true):g.aK (k+1) "text_drafted" ["notes"] (J6 Z0):=by
 refine R.fnX HD (fun vs H Q E h=>by obtain ⟨b,ks,d,rfl,⟨us,hb,hn⟩,hok,q,qe⟩:=h;rfl) fun f_ cdv A outer s H vs Q E hr h=>?_
 obtain ⟨b,ks,d,rfl,⟨us,hb,hn⟩,hok,q,qe⟩:=h;refine ⟨_,(Yc (YY (YH Zf hr YO (Ya (pv 0) (Ya Ye (Ya Ye Yb)))))
   (Yc (YB (i:=1) HD.nd rfl (.inl rfl) (YH yZ hr YO (Ya (Yr Yx (pv 0) Ye (fun _ _=>rfl)) Yb)))
   (Yc (Yo (Xr (Xd (YJ gU (WK rfl) (Ya (XQ (g:=YD 0) (src:=[none]) (N':=(["sign"]:List Str)) (.own .nil) rfl (QA (pv 1)) (fun cl C s₀ H₀ fp pn=>(Yv (i:=0) (show List.Nodup (["sign"]:List Str) by decide +kernel) rfl (.inl rfl) (.inr rfl))) (fun cl C s₀ H₀ fp pn=>Y4) (fun cl C s₀ H₀ fp pn=>(YM Z2G hr (Ya (pv 0) Yb))) (by intro x hx;simp at hx)) Yb)))) (Yd (YK ⟨aj,ak⟩ Y0 (Ya Yg Yb))) Yi)
   (Yd (PS.cO (Yj (XJ (Ya Yg (Ya (pv 1) Yb))))))))),?_⟩
 have bR:=hn.length;walk_at "rd";refine ⟨b,us,1,1,rfl,hb,fun hl=>?_,fun hl=>qe ?_ H (.refl _)⟩
 ·match ks,us,hn,hok,q,qe,hb,bR with
  | .cons x .nil,us,⟨u1,aV,e1,h1,e3⟩,hok,q,qe,hb,bR =>
   subst e3 e1;refine ⟨_,aD.of hb,_,rfl,x,u1,rfl,h1,fun w e=>?_,fun e=>qe ?_ H (.refl _)⟩
   ·subst e
    have hwl:=hok.1.wd.1;refine Gn (l:=w) ((w.map Rd.cC).map V.bl) (fun R r=>by walk_at "rd";exact r) (by simp) (by omega) ?_ ?_
    ·intro j d y H1 hd hy sm R rr
     rw [List.getElem?_map,List.getElem?_map,hd] at hy
     have:V.bl (Rd.cC d)=y:=Option.some.inj hy;subst this;walk_at "rd";refine ⟨[d],rfl,by simp,?_⟩;rw [show ([d]:List Nat).any Rd.cC=Rd.cC d by simp];exact rr H1 (.refl _)
    ·intro D H1 hD sm hd
     refine ⟨D,rfl,_,au.of hd,?_⟩;rw [show (w.map Rd.cC).all id=w.all Rd.cC by rw [List.all_map];rfl];refine Yw (fun c=>⟨few (by decide),qe (by rw [jL,if_neg (by rw [c];decide)]) H1 sm⟩) fun c=>⟨few (by decide),fun p hp=>?_⟩
     have hw:w.all Rd.cC=true:=by
      cases z:w.all Rd.cC with
      | true=>rfl
      | false=>exact (c z).elim
     exact q (.text w) _ _ (by rw [jL,if_pos hw]) (sm.trans (.ao hp _)) ⟨p,rfl,Yf⟩
   ·unfold jL
    split
    ·rename_i w hw;cases hw;exact (e _ rfl).elim
    ·rfl
  | .nil,us,_,_,_,_,_,bR=>rw [bR] at hl;exact absurd hl.1 (by decide)
  | .cons x (.cons y r),us,_,_,_,_,_,bR=>rw [bR] at hl;simp [Rd.Notes.len] at hl;omega
 ·match ks,bR with
  | .nil,_=>rfl
  | .cons x .nil,bR=>rw [bR] at hl;exact absurd hl (by simp [Rd.Notes.len])
  | .cons x (.cons y r),_=>unfold jL;split<;>first | rfl | (rename_i h;cases h)
def Ua (CN:Addr) (m:Nat):Sp:=fun vs H Q E=>∃ (n:Rd.Note) (v:V) (d:Nat),vs=[v]/\m=d+1/\Rd.cD H n v/\Rd.Ok d n/\(∀ s v' H',dl n=some s->Same H H'->SA H' s v'->Q v' H')/\(dl n=none->∀ H',Same H H'->E (.ref CN) none H')
theorem tu {CN:Addr} {vs:List V} {H:Hp} {Q:VK} {E:XK} (h:Ua CN 0 vs H Q E):False:=by
 obtain ⟨_,_,d,_,h,_⟩:=h;omega
def tD (ks:Rd.Notes):Option Sh:=if ks.len<=8 then (iV ks).map .row else none
def J7 (CN:Addr) (m:Nat):Sp:=fun vs H Q E=>∃ (b:Addr) (ks:Rd.Notes) (d:Nat),vs=[.ref b]/\(m=d+1\/ks = .nil)/\Qo CN tD d ks b H Q E
theorem ZN {k:Nat} {Z0:Addr} (R:g.Raw "row_drafted" "row_drafted" wU ["notes"]) (Zf:g.aK k "refuse_other_length" ["notes","least","most"] (Zp Z0)) (ZB:g.aK k "shape_drafted" ["note"] (Ua Z0 m)) (Zj:g.mg "tuple"=none) (ZR:g.fY "MOST_PARTS" (.int 8)):g.aK (k+1) "row_drafted" ["notes"] (J7 Z0 m):=by
 refine R.fnX Z4Q (fun vs H Q E h=>by obtain ⟨b,ks,d,rfl,hm,⟨us,hb,hn⟩,hok,q,qe⟩:=h;rfl) fun f_ cdv A outer s H vs Q E hr h=>?_
 obtain ⟨b,ks,d,rfl,hm,⟨us,hb,hn⟩,hok,q,qe⟩:=h;refine ⟨_,(Yc (YY (YH Zf hr YO (Ya (pv 0) (Ya Ye (Ya (Vc ZR) Yb)))))
   (Yd (Yj (XJ (Ya Yg (Ya (XZ Zj W4 (Ya (G8 (g:=YD 0) (src:=[none]) (N':=(["note"]:List Str)) Q5 (.own .nil) rfl (Up (pv 0)) (fun cl C s₀ H₀ fp pn=>(Yv (i:=0) (show List.Nodup (["note"]:List Str) by decide +kernel) rfl (.inl rfl) (.inr rfl))) (fun cl C s₀ H₀ fp pn=>Y4) (fun cl C s₀ H₀ fp pn=>(YH ZB hr wu (Ya (pv 0) Yb))) (by intro x hx;simp at hx)) Yb)) Yb)))))),?_⟩
 have bR:=hn.length;walk_at "rd";refine ⟨b,us,0,8,rfl,hb,fun hl=>?_,fun hl=>qe ?_ H (.refl _)⟩
 ·have tE:ks.len<=8:=by omega
  obtain ⟨hn1,hn2⟩:=Rd.aM.iff.mp hn;refine GJ (K:=g.K) (b:=b) (xs:=us) (fun D i y H'=>∀ n,ks.list[i]?=some n->∃ s,dl n=some s/\SA H' s y) (fun D i y H' aL h s n hi=>by obtain ⟨z,e1,e2⟩:=h n hi;exact ⟨z,e1,e2.keep (.of s)⟩) (fun D i y H' zs zs' h hD n hi=>by obtain ⟨z,e1,e2⟩:=h n hi;exact ⟨z,e1,e2.keep (pF.jW hD)⟩) (fun R r=>by walk_at "rd";exact r) (aD.of hb) (by omega) ?_ ?_
  ·intro D i x H' zs hx sm hD R r
   have hi:=(List.getElem?_eq_some_iff.mp hx).1;have hni:ks.list[i]?=some (ks.list[i]'(by rw [Rd.Notes.len_list];omega)):=List.getElem?_eq_getElem _;have hmem:=List.mem_of_getElem? hni;generalize (ks.list[i]'(by rw [Rd.Notes.len_list];omega))=n at hni hmem;have hm':m=d+1:=by
    rcases hm with hm | rfl
    ·exact hm
    ·cases hmem
   walk_at "rd";refine ⟨n,x,d,rfl,hm',(hn2 i x n hx hni).same sm,hok.mem hmem,fun s v' aL e s' h'=>r v' aL s' fun n' hn'=>?_,fun e aL s'=>qe ?_ aL (sm.trans s')⟩
   ·rw [hni] at hn'
    cases hn'
    exact ⟨s,e,h'⟩
   ·rw [tD,J0 hmem e]
    split<;>rfl
  ·intro D ys H' hD sm hd hyl hys
   obtain ⟨k,e1,h1⟩:=J2 (H:=H') (ks:=ks) (ys:=ys) (by omega) fun i y n a b=>hys i y a n b
   refine ⟨_,rfl,_,.inl ⟨au.of hd,fun p hp=>⟨few (by decide),fun p1 hp1=>?_⟩⟩⟩;have u1:=Same.ao hp (.tup ys);have u2:=Same.ao hp1 (.tup [.str (ms .row),.ref p]);exact q (.row k) _ _ (by rw [tD,if_pos tE,e1];rfl) (sm.trans (u1.trans u2)) ⟨p1,p,ys,rfl,Yf,u2 _ _ Yf,h1.keep (.of (u1.trans u2))⟩
 ·rw [tD,if_neg (by omega)]
def tG (k:Mk) (ks:Rd.Notes):Option Sh:=if ks.len=1 then (gB ks).map (.one k) else none
def J8 (CN:Addr) (m:Nat):Sp:=fun vs H Q E=>∃ (b:Addr) (k:Mk) (ks:Rd.Notes) (d:Nat),vs=[.str (ms k),.ref b]/\(m=d+1\/ks = .nil)/\Qo CN (tG k) d ks b H Q E
theorem Zr {k:Nat} {Z0:Addr} (R:g.Raw "one_part_drafted" "one_part_drafted" wV ["kind","notes"]) (Zf:g.aK k "refuse_other_length" ["notes","least","most"] (Zp Z0)) (ZB:g.aK k "shape_drafted" ["note"] (Ua Z0 m)):g.aK (k+1) "one_part_drafted" ["kind","notes"] (J8 Z0 m):=by
 refine R.fnX Z3b (fun vs H Q E h=>by obtain ⟨b,k,ks,d,rfl,hm,⟨us,hb,hn⟩,hok,q,qe⟩:=h;rfl) fun f_ cdv A outer s H vs Q E hr h=>?_
 obtain ⟨b,k,ks,d,rfl,hm,⟨us,hb,hn⟩,hok,q,qe⟩:=h;refine ⟨_,(Yc (YY (YH Zf hr YO (Ya (pv 1) (Ya Ye (Ya Ye Yb)))))
   (Yd (Yj (XJ (Ya (pv 0) (Ya (YH ZB hr YO (Ya (Yr Yx (pv 1) Ye (fun _ _=>rfl)) Yb)) Yb)))))),?_⟩
 have bR:=hn.length;walk_at "rd";refine ⟨b,us,1,1,rfl,hb,fun hl=>?_,fun hl=>qe (by rw [tG,if_neg (by omega)]) H (.refl _)⟩
 match ks,us,hn,hok,q,qe,hb,bR,hm with
 | .cons x r,us,⟨u1,aV,e1,h1,h2⟩,hok,q,qe,hb,bR,hm =>
  have hm':m=d+1:=hm.resolve_right (by simp);have hl1:(Rd.Notes.cons x r).len=1:=by omega
  subst e1;refine ⟨_,aD.of hb,u1,Yz (j:=0) rfl,x,u1,d,rfl,hm',h1,hok.1,fun s v H1 e s1 h=>⟨few (by decide),fun p hp=>?_⟩,fun e H1 s1=>qe ?_ H1 s1⟩
  ·exact q (.one k s) _ _ (by rw [tG,if_pos hl1,gB,show (if x.bQ=[] then dn x else none)=some s from e];rfl) (s1.trans (.ao hp _)) ⟨p,v,rfl,Yf,h.keep (.of (.ao hp _))⟩
  ·rw [tG,if_pos hl1,gB,show (if x.bQ=[] then dn x else none)=none from e];rfl
 | .nil,us,_,_,_,_,_,bR,_=>rw [bR] at hl;exact absurd hl.1 (by decide)
def Yia (ks:Rd.Notes):Option Sh:=jM ks.len (p7 ks) (gB ks)
theorem Vs (k:Nat) (t:Option Int) (s:Option Sh) (h:k≠2\/t=none\/s=none\/∃ i,t=some i/\¬ (1<=i/\i<=6)):jM k t s=none:=by
 match t,s with
 | some t,some s =>
  rw [jM,if_neg];rintro ⟨h1,h2⟩;rcases h with h | h | h | ⟨i,e,h⟩
  ·exact h h1
  ·cases h
  ·cases h
  ·cases e;exact h h2
 | none,_=>cases s<;>rfl
 | some _,none=>rfl
def Ka (CN:Addr) (m:Nat):Sp:=fun vs H Q E=>∃ (b:Addr) (ks:Rd.Notes) (d:Nat),vs=[.ref b]/\(m=d+1\/ks = .nil)/\Qo CN Yia d ks b H Q E
theorem ZE {k:Nat} {Z0:Addr} (R:g.Raw "alike_drafted" "alike_drafted" wW ["notes"]) (sZ:g.aK k "number_drafted" ["note"] (yX g.K Z0)) (Zf:g.aK k "refuse_other_length" ["notes","least","most"] (Zp Z0)) (ZB:g.aK k "shape_drafted" ["note"] (Ua Z0 m)) (ZS:g.fY "MOST_TIMES" (.int 6)) (aj:g.mg "NoNote"=some (.ref Z0)) (ak:PySem.W.excIn g.K Z0 YU "ValueError.__new__"=true):g.aK (k+1) "alike_drafted" ["notes"] (Ka Z0 m):=by
 refine R.fnX HF (fun vs H Q E h=>by obtain ⟨b,ks,d,rfl,hm,⟨us,hb,hn⟩,hok,q,qe⟩:=h;rfl) fun f_ cdv A outer s H vs Q E hr h=>?_
 obtain ⟨b,ks,d,rfl,hm,⟨us,hb,hn⟩,hok,q,qe⟩:=h;refine ⟨_,(Yc (YY (YH Zf hr YO (Ya (pv 0) (Ya Ye (Ya Ye Yb)))))
   (Yc (YB (i:=1) HF.nd rfl (.inl rfl) (YH sZ hr YO (Ya (Yr Yx (pv 0) Ye (fun _ _=>rfl)) Yb)))
   (Yc (Yo (Xr (V3 WT WT Ye (pv 1) (Vc ZS))) (Yd (YK ⟨aj,ak⟩ Y0 (Ya Yg Yb))) Yi)
   (Yd (Yj (XJ (Ya Yg (Ya (YH ZB hr YO (Ya (Yr Yx (pv 0) Ye (fun _ _=>rfl)) Yb)) (Ya (pv 1) Yb))))))))),?_⟩
 have bR:=hn.length;walk_at "rd";refine ⟨b,us,2,2,rfl,hb,fun hl=>?_,fun hl=>qe (Vs _ _ _ (.inl (by omega))) H (.refl _)⟩
 match ks,us,hn,hok,q,qe,hb,bR,hm with
 | .cons x (.cons y r),us,⟨u1,aV,e1,h1,u2,gj,e2,h2,h3⟩,hok,q,qe,hb,bR,hm =>
  have hm':m=d+1:=hm.resolve_right (by simp);have hl2:(Rd.Notes.cons x (.cons y r)).len=2:=by omega
  subst e2 e1;refine ⟨_,aD.of hb,u2,Yz (j:=1) rfl,y,u2,d,rfl,h2,hok.2.1,fun t H1 s1 et=>?_,fun et H1 s1=>qe (Vs _ _ _ (.inr (.inl et))) H1 s1⟩;refine ⟨_,rfl,Yw (fun c1=>⟨_,rfl,Yw (fun c2=>⟨few (by decide),qe (Vs _ _ _ (.inr (.inr (.inr ⟨t,et,by omega⟩)))) H1 s1⟩) fun c2=>?_⟩) fun c1=>⟨few (by decide),qe (Vs _ _ _ (.inr (.inr (.inr ⟨t,et,by omega⟩)))) H1 s1⟩⟩;refine ⟨_,aD.of (s1 _ _ hb),u1,Yz (j:=0) rfl,x,u1,d,rfl,hm',h1.same s1,hok.1,fun s v H2 e s2 h=>⟨few (by decide),fun p hp=>?_⟩,fun e H2 s2=>qe (Vs _ _ _ (.inr (.inr (.inl e)))) H2 (s1.trans s2)⟩;have u:=Same.ao hp (.tup [.str (ms .alike),v,.int t]);refine q (.alike s t.toNat) _ _ ?_ ((s1.trans s2).trans u) ⟨p,v,rfl,?_,h.keep (.of u)⟩
  ·show jM _ (p7 _) (gB _)=_
   rw [show p7 (.cons x (.cons y r))=some t from et,show gB (.cons x (.cons y r))=some s from e,jM,if_pos ⟨hl2,by omega⟩]
  ·rw [show ((t.toNat:Nat):Int)=t by omega]
   exact Yf
 | .nil,us,_,_,_,_,_,bR,_=>rw [bR] at hl;exact absurd hl.1 (by decide)
 | .cons x .nil,us,_,_,_,_,_,bR,_=>rw [bR] at hl;exact absurd hl.1 (by simp [Rd.Notes.len])
def Kc (CN:Addr) (m:Nat):Sp:=fun vs H Q E=>∃ (n:Rd.Note) (v:V) (d:Nat),vs=[v]/\m=d+1/\Rd.cD H n v/\Rd.Ok d n/\(∀ s b w H',db n=some s->Same H H'->H' b=some (.tup [.str (S n.bQ),w])->SA H' s w->Q (.ref b) H')/\(db n=none->∀ H',Same H H'->E (.ref CN) none H')
theorem emp {l:List Nat}:V.str (S l)=V.str (Str.ofString "")↔l=[]:=by
 have e0:Str.ofString ""=S []:=by decide +kernel
 rw [e0];exact ⟨fun h=>Y8 (V.str.inj h),fun h=>by rw [h]⟩
theorem ZA {k:Nat} {Z0:Addr} (R:g.Raw "branch_drafted" "branch_drafted" wX ["note"]) (ZB:g.aK k "shape_drafted" ["note"] (Ua Z0 m)) (aj:g.mg "NoNote"=some (.ref Z0)) (ak:PySem.W.excIn g.K Z0 YU "ValueError.__new__"=true):g.aK (k+1) "branch_drafted" ["note"] (Kc Z0 m):=by
 refine R.fnX HJ (fun vs H Q E h=>by obtain ⟨n,v,d,rfl,hm,hv,hok,q,qe⟩:=h;rfl) fun f_ cdv A outer s H vs Q E hr h=>?_
 obtain ⟨n,v,d,rfl,hm,hv,hok,q,qe⟩:=h;refine ⟨_,(Yc (PS.cO (YB (i:=1) HJ.nd rfl (.inl rfl) (Yr Yx (pv 0) Ye (fun _ _=>rfl))))
   (Yc (Yo (Yk YG (pv 1) Yg (Yl _)) (Yd (YK ⟨aj,ak⟩ Y0 (Ya Yg Yb))) Yi)
   (Yd (Yj (XJ (Ya (pv 1) (Ya (YH ZB hr YO (Ya (XJ (Ya Yg (Ya (Yr Yx (pv 0) Ye (fun _ _=>rfl)) (Ya (Yr Yx (pv 0) Ye (fun _ _=>rfl)) Yb)))) Yb (GD _ _ _ _ _))) Yb))))))),?_⟩
 have e0:Str.ofString ""=S []:=by decide +kernel
 cases n with
 | leaf l w =>
  obtain ⟨a,rfl,ha⟩:=hv;walk_at "rd";refine ⟨_,aD.of ha,_,rfl,rfl,Yw (fun c=>⟨few (by decide),qe (if_pos (emp.mp c)) H (.refl _)⟩) fun c=>⟨_,aD.of ha,_,rfl,_,aD.of ha,_,rfl,few (by decide),fun p hp=>?_⟩⟩;have u:=Same.ao hp (.tup [.str (Str.ofString ""),.str (S w),.non]);have hdb:∀ x,dl (Rd.Note.leaf l w).un=x->db (.leaf l w)=x:=fun x h=>by rw [JZ] at h;exact (if_neg (fun z=>c (emp.mpr z))).trans h
  refine ⟨(Rd.Note.leaf l w).un,_,d,rfl,hm,⟨p,rfl,by rw [<- e0];exact Yf⟩,hok.un,fun s v' H' e s' h'=>⟨few (by decide),fun p1 hp1=>?_⟩,fun e H' s'=>qe (hdb _ e) H' (u.trans s')⟩;have u1:=Same.ao hp1 (.tup [.str (S l),v']);exact q s p1 v' _ (hdb _ e) ((u.trans s').trans u1) Yf (h'.keep (.of u1))
 | node l w ks =>
  obtain ⟨a,b,us,rfl,ha,hb,hn⟩:=hv;walk_at "rd";refine ⟨_,aD.of ha,_,rfl,rfl,Yw (fun c=>⟨few (by decide),qe (if_pos (emp.mp c)) H (.refl _)⟩) fun c=>⟨_,aD.of ha,_,rfl,_,aD.of ha,_,rfl,few (by decide),fun p hp=>?_⟩⟩;have u:=Same.ao hp (.tup [.str (Str.ofString ""),.str (S w),.ref b]);have hdb:∀ x,dl (Rd.Note.node l w ks).un=x->db (.node l w ks)=x:=fun x h=>by rw [JZ] at h;exact (if_neg (fun z=>c (emp.mpr z))).trans h
  refine ⟨(Rd.Note.node l w ks).un,_,d,rfl,hm,⟨p,b,us,rfl,by rw [<- e0];exact Yf,u _ _ hb,hn.same u⟩,hok.un,fun s v' H' e s' h'=>⟨few (by decide),fun p1 hp1=>?_⟩,fun e H' s'=>qe (hdb _ e) H' (u.trans s')⟩;have u1:=Same.ao hp1 (.tup [.str (S l),v']);exact q s p1 v' _ (hdb _ e) ((u.trans s').trans u1) Yf (h'.keep (.of u1))
def tH (ks:Rd.Notes):Option Sh:=if 1<=ks.len/\ks.len<=10 then (iW ks).map .pick else none
def Kd (CN:Addr) (m:Nat):Sp:=fun vs H Q E=>∃ (b:Addr) (ks:Rd.Notes) (d:Nat),vs=[.ref b]/\(m=d+1\/ks = .nil)/\Qo CN tH d ks b H Q E
theorem ZI {k:Nat} {Z0:Addr} (R:g.Raw "pick_drafted" "pick_drafted" wY ["notes"]) (Zf:g.aK k "refuse_other_length" ["notes","least","most"] (Zp Z0)) (Z49:g.aK k "branch_drafted" ["note"] (Kc Z0 m)) (Zj:g.mg "tuple"=none) (ZD:g.fY "MOST_BRANCHES" (.int 10)):g.aK (k+1) "pick_drafted" ["notes"] (Kd Z0 m):=by
 refine R.fnX Z4v (fun vs H Q E h=>by obtain ⟨b,ks,d,rfl,hm,⟨us,hb,hn⟩,hok,q,qe⟩:=h;rfl) fun f_ cdv A outer s H vs Q E hr h=>?_
 obtain ⟨b,ks,d,rfl,hm,⟨us,hb,hn⟩,hok,q,qe⟩:=h;refine ⟨_,(Yc (YY (YH Zf hr YO (Ya (pv 0) (Ya Ye (Ya (Vc ZD) Yb)))))
   (Yd (Yj (XJ (Ya Yg (Ya (XZ Zj W4 (Ya (G8 (g:=YD 0) (src:=[none]) (N':=(["note"]:List Str)) Q5 (.own .nil) rfl (Up (pv 0)) (fun cl C s₀ H₀ fp pn=>(Yv (i:=0) (show List.Nodup (["note"]:List Str) by decide +kernel) rfl (.inl rfl) (.inr rfl))) (fun cl C s₀ H₀ fp pn=>Y4) (fun cl C s₀ H₀ fp pn=>(YH Z49 hr wu (Ya (pv 0) Yb))) (by intro x hx;simp at hx)) Yb)) Yb)))))),?_⟩
 have bR:=hn.length;walk_at "rd";refine ⟨b,us,1,10,rfl,hb,fun hl=>?_,fun hl=>qe ?_ H (.refl _)⟩
 ·have tE:1<=ks.len/\ks.len<=10:=by omega
  obtain ⟨hn1,hn2⟩:=Rd.aM.iff.mp hn;refine GJ (K:=g.K) (b:=b) (xs:=us) (fun D i y H'=>∀ n,ks.list[i]?=some n->∃ s b w,db n=some s/\y = .ref b/\H' b=some (.tup [.str (S n.bQ),w])/\SA H' s w) (fun D i y H' aL h s n hi=>by obtain ⟨z,b,w,e1,e2,e3,e4⟩:=h n hi;exact ⟨z,b,w,e1,e2,s _ _ e3,e4.keep (.of s)⟩) (fun D i y H' zs zs' h hD n hi=>by obtain ⟨z,b,w,e1,e2,e3,e4⟩:=h n hi;exact ⟨z,b,w,e1,e2,pF.jW hD _ _ e3,e4.keep (pF.jW hD)⟩) (fun R r=>by walk_at "rd";exact r) (aD.of hb) (by omega) ?_ ?_
  ·intro D i x H' zs hx sm hD R r
   have hi:=(List.getElem?_eq_some_iff.mp hx).1;have hni:ks.list[i]?=some (ks.list[i]'(by rw [Rd.Notes.len_list];omega)):=List.getElem?_eq_getElem _;have hmem:=List.mem_of_getElem? hni;generalize (ks.list[i]'(by rw [Rd.Notes.len_list];omega))=n at hni hmem;have hm':m=d+1:=by
    rcases hm with hm | rfl
    ·exact hm
    ·cases hmem
   walk_at "rd";refine ⟨n,x,d,rfl,hm',(hn2 i x n hx hni).same sm,hok.mem hmem,fun s b w aL e s' hb' h'=>r (.ref b) aL s' fun n' hn'=>?_,fun e aL s'=>qe ?_ aL (sm.trans s')⟩
   ·rw [hni] at hn'
    cases hn'
    exact ⟨s,b,w,e,rfl,hb',h'⟩
   ·rw [tH,J1 hmem e]
    split<;>rfl
  ·intro D ys H' hD sm hd hyl hys
   obtain ⟨k,e1,h1⟩:=J3 (H:=H') (ks:=ks) (ys:=ys) (by omega) fun i y n a b=>hys i y a n b
   refine ⟨_,rfl,_,.inl ⟨au.of hd,fun p hp=>⟨few (by decide),fun p1 hp1=>?_⟩⟩⟩;have u1:=Same.ao hp (.tup ys);have u2:=Same.ao hp1 (.tup [.str (ms .pick),.ref p]);exact q (.pick k) _ _ (by rw [tH,if_pos tE,e1];rfl) (sm.trans (u1.trans u2)) ⟨p1,p,ys,rfl,Yf,u2 _ _ Yf,h1.keep (.of (u1.trans u2))⟩
 ·rw [tH,if_neg (by omega)]
theorem YX {i:Nat} {x X:Str} {s r:TS} {D:Ends} {σ:St} {H:Hp} (h:σ[i]?=some (some (.str x))) (hne:x≠X) (hr:r D σ H):X0 (QX (V1 (jG ni (VH i) (tC (.str X)))) s UQ) r D σ H:=by
 simp only [X0,QX,V1,jG,VH,tC,ni,UQ];refine ⟨_,h,rfl,_,rfl,?_⟩;rw [decide_eq_false (fun e=>hne (V.str.inj e))];exact hr
theorem Y3 {i:Nat} {x X:Str} {s r:TS} {D:Ends} {σ:St} {H:Hp} (h:σ[i]?=some (some (.str x))) (he:x=X) (hs:s { D with nx:=r D } σ H):X0 (QX (V1 (jG ni (VH i) (tC (.str X)))) s UQ) r D σ H:=by
 simp only [X0,QX,V1,jG,VH,tC,ni,UQ];refine ⟨_,h,rfl,_,rfl,?_⟩;rw [decide_eq_true (congrArg V.str he)];exact hs
theorem Yib {a r:TS} {D:Ends} {σ:St} {H:Hp} (h:∀ N:St->Hp->Prop,a { D with nx:=N } σ H):X0 a r D σ H:=h (r D)
theorem Pa (w:List Nat):inV (.str (S w)) [.str (Str.ofString "many"),.str (Str.ofString "rising"),.str (Str.ofString "unlike")]=decide (w=mc .many\/w=mc .rising\/w=mc .unlike):=by
 have e:∀ m:Mk,gq (.str (ms m)) (.str (S w))=decide (w=mc m):=fun m=>by
  simp only [gq];by_cases c:w=mc m
  ·rw [c,XS];simp
  ·have:ms m≠S w:=fun z=>c (by rw [XS] at z;exact (Y8 z).symm)
   simp [c,this]
 rw [JL,JM,JN,inV,List.any_cons,List.any_cons,List.any_cons,List.any_nil,e,e,e];by_cases c1:w=mc .many<;>by_cases c2:w=mc .rising<;>by_cases c3:w=mc .unlike<;>simp [c1,c2,c3]
theorem ZF {k:Nat} {Z0:Addr} (R:g.Raw "shape_drafted" "shape_drafted" w6 ["note"]) (Z4y:g.aK k "whole_drafted" ["notes"] (J5 Z0)) (Z4U:g.aK k "text_drafted" ["notes"] (J6 Z0)) (lg:g.aK k "row_drafted" ["notes"] (J7 Z0 m)) (Z3l:g.aK k "one_part_drafted" ["kind","notes"] (J8 Z0 m)) (Z4z:g.aK k "alike_drafted" ["notes"] (Ka Z0 m)) (Z4V:g.aK k "pick_drafted" ["notes"] (Kd Z0 m)) (lq:g.aK k "use_drafted" ["name"] (J4 Z0)) (ZH:g.lJ "OF_ONE_PART" ([.str "many",.str "rising",.str "unlike"])) (aj:g.mg "NoNote"=some (.ref Z0)) (ak:PySem.W.excIn g.K Z0 YU "ValueError.__new__"=true):g.aK (k+1) "shape_drafted" ["note"] (Ua Z0 (m+1)):=by
 refine R.fnX xg (fun vs H Q E h=>by obtain ⟨n,v,d,rfl,hm,hv,hok,q,qe⟩:=h;rfl) fun f_ cdv A outer s H vs Q E hr h=>?_
 obtain ⟨n,v,d,rfl,hm,hv,hok,q,qe⟩:=h;refine ⟨_,(Yc (Yo (Yk UR (Yr Yx (pv 0) Ye (fun _ _=>rfl)) Yg (Yl _)) (Yd (YK ⟨aj,ak⟩ Y0 (Ya Yg Yb))) Yi)
   (Yc (PS.cO (YB (i:=1) xg.nd rfl (.inl rfl) (Yr Yx (pv 0) Ye (fun _ _=>rfl))))
   (Yc (PS.cO (YB (i:=2) xg.nd rfl (.inl rfl) (Yr Yx (pv 0) Ye (fun _ _=>rfl))))
   (Yc (Yo (Yk Ea (pv 2) Wn (Yl _)) (Yd (Yj (YH lq hr YO (Ya (pv 1) Yb)))) Yi)
   (Yc (Yo (Yk YG (pv 1) Yg (Yl _)) (Yd (Yj (YH Z4y hr YO (Ya (pv 2) Yb)))) Yi)
   (Yc (Yo (Yk YG (pv 1) Yg (Yl _)) (Yd (Yj (YH Z4U hr YO (Ya (pv 2) Yb)))) Yi)
   (Yc (Yo (Yk YG (pv 1) Yg (Yl _)) (Yd (Yj (YH lg hr YO (Ya (pv 2) Yb)))) Yi)
   (Yc (Yo (Yk Xk (pv 1) (Gm ZH) rfl) (Yd (Yj (YH Z3l hr YO (Ya (pv 1) (Ya (pv 2) Yb))))) Yi)
   (Yc (Yo (Yk YG (pv 1) Yg (Yl _)) (Yd (Yj (YH Z4z hr YO (Ya (pv 2) Yb)))) Yi)
   (Yc (Yo (Yk YG (pv 1) Yg (Yl _)) (Yd (Yj (YH Z4V hr YO (Ya (pv 2) Yb)))) Yi)
   (Yd (YK ⟨aj,ak⟩ Y0 (Ya Yg Yb))))))))))))),?_⟩
 obtain rfl:d=m:=by omega
 obtain ⟨a,l,w,x,rfl,ha,jE⟩:∃ (a:Addr) (l w:List Nat) (x:V),v = .ref a/\H a=some (.tup [.str (S l),.str (S w),x])/\n.bQ=l/\((∃ l,n = .leaf l w/\x = .non)\/∃ l ks b,n = .node l w ks/\x = .ref b):=by
  cases n with
  | leaf l w=>obtain ⟨a,e,ha⟩:=hv;exact ⟨a,l,w,_,e,ha,rfl,.inl ⟨l,rfl,rfl⟩⟩
  | node l w ks=>obtain ⟨a,b,us,e,ha,_⟩:=hv;exact ⟨a,l,w,_,e,ha,rfl,.inr ⟨l,ks,b,rfl,rfl⟩⟩
 refine Xq (fun σ H'=>l=[]/\σ=[some (.ref a),none,none]/\H=H') ?_ (fun N hN=>by
  walk_at "rd";exact ⟨_,aD.of ha,_,rfl,rfl,Yw (fun c=>⟨few (by decide),qe (if_neg fun z=>c (emp.mpr (jE.1▸z))) H (.refl _)⟩) fun c=>hN _ _ ⟨Classical.byContradiction fun z=>c fun y=>z (emp.mp y),rfl,rfl⟩⟩)
 rintro σ H' ⟨rfl,rfl,eH⟩;subst eH;have hdl:dl n=dn n:=if_pos jE.1;rw [hdl] at q qe
 refine Uw (fun σ H'=>σ=[some (.ref a),some (.str (S w)),some x]/\H=H') ?_ (fun N hN=>by
  walk_at "rd";exact ⟨_,aD.of ha,_,rfl,_,aD.of ha,_,rfl,hN _ _ ⟨rfl,rfl⟩⟩)
 rintro σ H' ⟨rfl,eH⟩;subst eH;rcases jE.2 with ⟨l,rfl,rfl⟩ | ⟨l,ks,b,rfl,rfl⟩
 ·refine Yib fun N=>?_
  have hwl:=hok.wd.1;walk_at "rd";refine ⟨w,rfl,by omega,fun v H' hw s' hv=>q _ v H' ?_ s' hv,fun hw H' s'=>qe ?_ H' s'⟩
  ·rw [dn,if_pos hw]
  ·rw [dn,if_neg (by rw [hw];decide)]
 obtain ⟨a',b',us,ea,ha',hb,hn⟩:=hv
 cases ea
 rw [ha] at ha'
 cases ha'
 refine Xq (fun σ H'=>σ=[some (.ref a),some (.str (S w)),some (.ref b)]/\H=H') ?_ (fun N hN=>by
  walk_at "rd"
  first | exact hN _ _ ⟨rfl,rfl⟩ | exact Xc (by simp) (hN _ _ ⟨rfl,rfl⟩))
 rintro σ H' ⟨rfl,eH⟩;subst eH;obtain ⟨d,rfl⟩:∃ e,d=e+1:=by
  match d,hok with
  | e+1,_=>exact ⟨e,rfl⟩
 have hk:Rd.fH d ks:=hok.2.2;have nm:∀ {m m':Mk},w=mc m->m≠m'->w≠mc m':=fun {m m'} e n z=>n (JR (e.symm.trans z))
 have dr:∀ {f:Rd.Notes->Option Sh},dn (.node [] w ks)=f ks->Qo Z0 f d ks b H Q E:=fun {f} e=>⟨⟨us,hb,hn⟩,hk,fun s v H' h=>q s v H' (e.trans h),fun h=>qe (e.trans h)⟩
 have yes:∀ {m:Mk},w=mc m->S w=ms m:=fun e=>by rw [e,XS]
 have not:∀ {m:Mk},w≠mc m->S w≠ms m:=fun e z=>e (by rw [XS] at z;exact Y8 z)
 by_cases n1:w=mc .whole
 ·refine Y3 (i:=1) rfl (yes n1) ?_
  walk_at "rd";exact ⟨b,ks,d,rfl,dr (by rw [dn,if_pos n1])⟩
 refine YX (i:=1) rfl (not n1) ?_;by_cases n2:w=mc .text
 ·refine Y3 (i:=1) rfl (yes n2) ?_
  walk_at "rd";exact ⟨b,ks,d,rfl,dr (by rw [dn,if_neg n1,if_pos n2])⟩
 refine YX (i:=1) rfl (not n2) ?_;by_cases n3:w=mc .row
 ·refine Y3 (i:=1) rfl (yes n3) ?_
  walk_at "rd";exact ⟨b,ks,d,rfl,.inl rfl,dr (by rw [dn,if_neg n1,if_neg n2,if_pos n3];rfl)⟩
 refine YX (i:=1) rfl (not n3) ?_;refine Xq (fun σ H'=>(¬ (w=mc .many\/w=mc .rising\/w=mc .unlike))/\σ=[some (.ref a),some (.str (S w)),some (.ref b)]/\H=H') ?_ (fun N hN=>by
  walk_at "rd";intro t ht;refine ⟨_,.inr ht,rfl,rfl,?_⟩;rw [Pa];refine Yw (fun c4=>?_) fun c4=>hN _ _ ⟨fun z=>c4 (decide_eq_true z),rfl,rfl⟩
  rcases of_decide_eq_true c4 with e | e | e
  ·exact ⟨b,.many,ks,d,by rw [e,XS],.inl rfl,dr (by rw [dn,if_neg n1,if_neg n2,if_neg n3,if_pos e];rfl)⟩
  ·exact ⟨b,.rising,ks,d,by rw [e,XS],.inl rfl,dr (by rw [dn,if_neg n1,if_neg n2,if_neg n3,if_neg (nm e (by decide)),if_pos e];rfl)⟩
  ·exact ⟨b,.unlike,ks,d,by rw [e,XS],.inl rfl,dr (by rw [dn,if_neg n1,if_neg n2,if_neg n3,if_neg (nm e (by decide)),if_neg (nm e (by decide)),if_pos e];rfl)⟩)
 rintro σ H' ⟨c4,rfl,eH⟩;subst eH;have m1:w≠mc .many:=fun z=>c4 (.inl z)
 have m2:w≠mc .rising:=fun z=>c4 (.inr (.inl z))
 have m3:w≠mc .unlike:=fun z=>c4 (.inr (.inr z))
 by_cases n5:w=mc .alike
 ·refine Y3 (i:=1) rfl (yes n5) ?_
  walk_at "rd";exact ⟨b,ks,d,rfl,.inl rfl,dr (by rw [dn,if_neg n1,if_neg n2,if_neg n3,if_neg m1,if_neg m2,if_neg m3,if_pos n5];rfl)⟩
 refine YX (i:=1) rfl (not n5) ?_;by_cases n6:w=mc .pick
 ·refine Y3 (i:=1) rfl (yes n6) ?_
  walk_at "rd";exact ⟨b,ks,d,rfl,.inl rfl,dr (by rw [dn,if_neg n1,if_neg n2,if_neg n3,if_neg m1,if_neg m2,if_neg m3,if_neg n5,if_pos n6];rfl)⟩
 refine YX (i:=1) rfl (not n6) ?_;walk_at "rd";exact ⟨few (by decide),qe (by rw [dn,if_neg n1,if_neg n2,if_neg n3,if_neg m1,if_neg m2,if_neg m3,if_neg n5,if_neg n6]) H (.refl _)⟩
def WQ (t:List Nat):Option Sh:=match Rd.parse t with
 | some n=>dl n
 | none=>none
def Ke (K:PySem.W.Frag) (CN CC:Addr):Sp:=fun vs H Q E=>∃ x:V,vs=[x]/\((Vr K H x/\E (.ref CN) none H)\/∃ t:List Nat,x = .str (S t)/\t.length<=100000/\(¬ (t.length<=2000/\Rd.bG 0 t)->E (.ref CC) none H)/\(t.length<=2000->Rd.bG 0 t->WQ t=none->∀ H',Same H H'->E (.ref CN) none H')/\(∀ s v H',t.length<=2000->Rd.bG 0 t->WQ t=some s->SA H' s v->Same H H'->Q v H'))
theorem YaZ {k:Nat} {Z0 Z3:Addr} (R:g.Raw "read_draft" "read_draft" xq ["text"]) (mK:g.aK k "read_note" ["text"] (Jv g.K Z0 Z3)) (ZB:g.aK k "shape_drafted" ["note"] (Ua Z0 8)):g.aK (k+1) "read_draft" ["text"] (Ke g.K Z0 Z3):=by
 refine R.fnX YaX (fun vs H Q E h=>by obtain ⟨x,rfl,hx⟩:=h;rfl) fun f_ cdv A outer s H vs Q E hr h=>?_
 obtain ⟨x,rfl,hx⟩:=h;refine ⟨_,(Yd (Yj (YH ZB hr YO (Ya (YH mK hr YO (Ya (pv 0) Yb)) Yb)))),?_⟩;walk_at "rd";refine ⟨x,rfl,?_⟩;rcases hx with ⟨h1,h2⟩ | ⟨t,rfl,hl,qc,qn,q⟩
 ·exact .inl ⟨h1,h2⟩
 ·refine .inr ⟨t,rfl,hl,qc,fun h1 h2 h3=>qn h1 h2 (by rw [WQ,h3]),fun n v H1 h1 h2 h3 hv s1=>?_⟩
  have e:WQ t=dl n:=by rw [WQ,h3]
  exact ⟨n,v,7,rfl,rfl,hv,Rd.lO h3,fun s v' H' es s' hs=>q s v' H' h1 h2 (e.trans es) hs (s1.trans s'),fun es H' s'=>qn h1 h2 (e.trans es) H' (s1.trans s')⟩
section
variable {src:List (Option Nat)} {te:TE} {σ:St} {H:Hp} {Q:VK}
theorem Ub {K:PySem.W.Frag} {tl:TE} {b:Addr} {xs:List V} (ps:List (V×V)) (ys:List V) (ha:∀ R:V->Hp->Prop,R (.ref b) H->tl σ H R) (hS:aD K H b xs) (hp:∀ (i:Nat) x p,xs[i]?=some x->ps[i]?=some p->∃ T,x = .ref T/\aD K H T [p.1,p.2]) (hl:ps.length=xs.length) (hl2:ys.length=xs.length) (hlen:xs.length<=100000)
  (step:∀ (i:Nat) p y H',ps[i]?=some p->ys[i]?=some y->Same H H'->∀ R:VK,(∀ aL,Same H' aL->R y aL)->te (some p.1::some p.2::YV src σ) H' R)
  (fin:∀ D H',H D=none->Same H H'->H' D=some (.lst ys)->Q (.ref D) H'):iT (none::none::src) (qD K tl) (Wp K 2 (Y5 (YD 0) (Y5 (YD 1) Wo))) WJ te σ H Q:=by
 refine ha _ ⟨b,rfl,⟨xs,hS⟩,fun D hD=>?_⟩;have h6:100000<sizeLine:=by decide
 refine UW (FT.imp fun H' (e:Same H H')=>e.tup hS) (fun i zs σ' H'=>zs=ys.take i/\(∃ o o',σ'=o::o'::YV src σ)/\Same H H'/\H' D=some (.lst zs)) ⟨by simp,⟨none,none,rfl⟩,.ao hD _,Yf⟩ (fun i zs σ' H' p=>⟨p.2.2.1,p.2.2.2⟩) (Qg K 0 1) ?_ ?_
 ·rintro i zs σ' H' x hx ⟨rfl,⟨o,o',rfl⟩,sm,hd⟩
  have hi:=(List.getElem?_eq_some_iff.mp hx).1;have hy:ys[i]?=some (ys[i]'(by omega)):=List.getElem?_eq_getElem _;have hpi:ps[i]?=some (ps[i]'(by omega)):=List.getElem?_eq_getElem _;obtain ⟨T,rfl,hT⟩:=hp i x _ hx hpi;refine ⟨T,_,rfl,sm.tup hT,rfl,_,_,rfl,_,_,rfl,rfl,?_⟩;refine step i _ _ H' hpi hy sm _ fun aL s2=>⟨s2 _ _ hd,?_,(Wk hy).symm,⟨_,_,rfl⟩,.cu hD (sm.trans s2) _,Yf⟩
  rw [List.length_take];omega
 ·rintro zs σ' H' ⟨rfl,_,sm,hd⟩
  rw [<- hl2,List.take_length] at hd
  exact fin D H' hD sm hd
end
theorem UD {K:PySem.W.Frag} {tl:TE} {g:TG} {tb:TS} {D:Ends} {σ:St} {H:Hp} (G:Addr->List V->Hp->Prop) (ha:∀ R:V->Hp->Prop,(∀ c xs H1,G c xs H1->R (.ref c) H1)->tl σ H R)
  (hb:∀ c xs H1,G c xs H1->∃ Pv:Nat->St->Hp->Prop,Pv 0 σ H1/\(∀ i σ H,i<=xs.length->Pv i σ H->au K H c xs)/\(∀ (i:Nat) x σ H,xs[i]?=some x->Pv i σ H->g x σ H fun σ2 H2=>tb { D with nx:=Pv (i+1),ct:=Pv (i+1),bk:=D.nx } σ2 H2)/\(∀ σ H,Pv xs.length σ H->D.nx σ H)):oY (V0 K tl) g tb D σ H:=by
 refine ha _ fun c xs H1 hG=>?_
 obtain ⟨Pv,h0,hl,hs,hd⟩:=hb c xs H1 hG;exact ⟨c,rfl,⟨xs,hl 0 σ H1 (Nat.zero_le _) h0⟩,DN Pv h0 hl hs hd⟩
theorem Qp {K:PySem.W.Frag} {src:List (Option Nat)} {te tl:TE} {σ:St} {H:Hp} {Q:VK} (G:Addr->List V->Hp->Prop) (ha:∀ R:V->Hp->Prop,(∀ b xs H1,G b xs H1->R (.ref b) H1)->tl σ H R)
  (hb:∀ b xs H1,G b xs H1->au K H1 b xs/\xs.length<=100000/\∃ ys:List V,ys.length=xs.length/\(∀ (i:Nat) x y H',xs[i]?=some x->ys[i]?=some y->Same H1 H'->∀ R:VK,(∀ aL,Same H' aL->R y aL)->te (some x::YV src σ) H' R)/\(∀ D H',H1 D=none->Same H1 H'->H' D=some (.lst ys)->Q (.ref D) H')):iT (none::src) (V0 K tl) (YD 0) WJ te σ H Q :=
 ha _ fun b xs H1 hG=>by
  obtain ⟨hS,hlen,ys,hl,step,fin⟩:=hb b xs H1 hG;exact ⟨b,rfl,⟨xs,hS⟩,fun D hD=>vU (Va.imp fun H' (e:Same H1 H')=>e.seq hS) ys (fun _ e=>e) hD hl hlen (fun i x y H' hx hy sm R r=>step i x y H' hx hy sm R r) fun H' sm=>fin D H' hD sm⟩
theorem YfU {l:List Nat} (h:Rd.gb l) (hn:l≠[]):Rd.aJ l=true:=by
 have h2:1<=l.length:=by
  cases l with
  | nil=>exact (hn rfl).elim
  | cons x l=>simp
 unfold Rd.aJ;rw [decide_eq_true h2,decide_eq_true h.1,List.all_eq_true.mpr h.2];rfl
theorem Ok.bQ {d:Nat} {n:Rd.Note} (h:Rd.Ok d n):Rd.gb n.bQ:=by
 cases n with
 | leaf l w=>cases d<;>exact h.1
 | node l w ks =>
  match d,h with
  | d+1,h=>exact h.1
theorem Kf {l:List Nat} {a:Option Sh} {b:Option aH} {k:aH} (h:put l a b=some k):∃ s r,a=some s/\b=some r/\k = .cons l s r:=by
 match a,b,h with
 | some s,some r,h=>exact ⟨s,r,rfl,rfl,(Option.some.inj h).symm⟩
theorem YfV {k:Nat} {t:Option Int} {a:Option Sh} {s:Sh} (h:jM k t a=some s):∃ i z,t=some i/\a=some z/\k=2/\1<=i/\i<=6/\s = .alike z i.toNat:=by
 match t,a,h with
 | some t,some z,h =>
  rw [jM] at h
  by_cases c:k=2/\1<=t/\t<=6
  ·rw [if_pos c] at h
   exact ⟨t,z,rfl,rfl,c.1,c.2.1,c.2.2,(Option.some.inj h).symm⟩
  ·rw [if_neg c] at h;cases h
theorem Yic {ks:Rd.Notes} {s:Sh} (h:kO ks=some s):Gd s/\dp s=0:=by
 match ks,h with
 | .cons a (.cons b .nil),h =>
  rw [kO] at h
  cases ea:Wy a with
  | none=>rw [ea] at h;cases h
  | some i =>
   cases eb:Wy b with
   | none=>rw [ea,eb] at h;cases h
   | some j =>
    rw [ea,eb] at h
    cases h
    obtain ⟨_,_,_,h1,_⟩:=UC ea;obtain ⟨_,_,_,h2,_⟩:=UC eb;exact ⟨⟨h1,h2⟩,rfl⟩
theorem Yid {ks:Rd.Notes} {d:Nat} {s:Sh} (hk:Rd.fH d ks) (h:jL ks=some s):Gd s/\dp s=0:=by
 unfold jL at h
 split at h
 ·rename_i w
  by_cases c:w.all Rd.cC=true
  ·rw [if_pos c] at h
   cases h
   have h':Rd.gb []/\Rd.gw w:=by
    have:=hk.1
    cases d<;>exact this
   exact ⟨⟨h'.2.1,h'.2.2.1,c⟩,rfl⟩
  ·rw [if_neg c] at h;cases h
 ·cases h
mutual
theorem tK:∀ (d:Nat) (n:Rd.Note) (s:Sh),Rd.Ok d n->dn n=some s->Gd s/\dp s<=d
 | d,.leaf l w,s,h,e=>by
  rw [dn] at e
  by_cases c:Rd.aJ w=true
  ·rw [if_pos c] at e
   cases e
   exact ⟨c,Nat.zero_le _⟩
  ·rw [if_neg c] at e;cases e
 | 0,.node l w ks,s,h,e=>h.elim
 | d+1,.node l w ks,s,h,e=>by
  have hk:=h.2.2;have one:∀ {m:Mk},is1 m->(if ks.len=1 then (gB ks).map (.one m) else none)=some s->Gd s/\dp s<=d+1:=fun {m} hm z=>by
   by_cases c:ks.len=1
   ·rw [if_pos c] at z
    obtain ⟨x,e1,rfl⟩:=Option.map_eq_some_iff.mp z;obtain ⟨h1,h2⟩:=Kg d ks x hk e1;exact ⟨⟨hm,h1⟩,by simp only [dp];omega⟩
   ·rw [if_neg c] at z;cases z
  rw [dn] at e
  by_cases c1:w=mc .whole
  ·rw [if_pos c1] at e
   obtain ⟨h1,h2⟩:=Yic e;exact ⟨h1,by omega⟩
  rw [if_neg c1] at e
  by_cases c2:w=mc .text
  ·rw [if_pos c2] at e
   obtain ⟨h1,h2⟩:=Yid hk e;exact ⟨h1,by omega⟩
  rw [if_neg c2] at e
  by_cases c3:w=mc .row
  ·rw [if_pos c3] at e
   by_cases c:ks.len<=8
   ·rw [if_pos c] at e
    obtain ⟨x,e1,rfl⟩:=Option.map_eq_some_iff.mp e;obtain ⟨h1,h2,h3⟩:=Kh d ks x hk e1;exact ⟨⟨by omega,h1⟩,by simp only [dp];omega⟩
   ·rw [if_neg c] at e;cases e
  rw [if_neg c3] at e
  by_cases c4:w=mc .many
  ·rw [if_pos c4] at e;exact one (.inl rfl) e
  rw [if_neg c4] at e
  by_cases c5:w=mc .rising
  ·rw [if_pos c5] at e;exact one (.inr (.inl rfl)) e
  rw [if_neg c5] at e
  by_cases c6:w=mc .unlike
  ·rw [if_pos c6] at e;exact one (.inr (.inr rfl)) e
  rw [if_neg c6] at e
  by_cases c7:w=mc .alike
  ·rw [if_pos c7] at e
   obtain ⟨i,z,e1,e2,_,i1,i2,rfl⟩:=YfV e;obtain ⟨h1,h2⟩:=Kg d ks z hk e2;exact ⟨⟨by omega,by omega,h1⟩,by simp only [dp];omega⟩
  rw [if_neg c7] at e
  by_cases c8:w=mc .pick
  ·rw [if_pos c8] at e
   by_cases c:1<=ks.len/\ks.len<=10
   ·rw [if_pos c] at e
    obtain ⟨x,e1,rfl⟩:=Option.map_eq_some_iff.mp e;obtain ⟨h1,h2,h3⟩:=Kl d ks x hk e1;exact ⟨⟨by omega,by omega,h1⟩,by simp only [dp];omega⟩
   ·rw [if_neg c] at e;cases e
  rw [if_neg c8] at e;cases e
theorem Kg:∀ (d:Nat) (ks:Rd.Notes) (s:Sh),Rd.fH d ks->gB ks=some s->Gd s/\dp s<=d
 | d,.nil,s,_,e=>by rw [gB] at e;cases e
 | d,.cons n r,s,h,e=>by
  rw [gB] at e
  by_cases c:n.bQ=[]
  ·rw [if_pos c] at e;exact tK d n s h.1 e
  ·rw [if_neg c] at e;cases e
theorem Kh:∀ (d:Nat) (ks:Rd.Notes) (k:aH),Rd.fH d ks->iV ks=some k->kI k/\jx k<=d/\k.list.length=ks.len
 | d,.nil,k,_,e=>by
  rw [iV] at e
  cases e
  exact ⟨trivial,Nat.zero_le _,rfl⟩
 | d,.cons n r,k,h,e=>by
  rw [iV] at e
  obtain ⟨s,r',e1,e2,rfl⟩:=Kf e;obtain ⟨h1,h2,h3⟩:=Kh d r r' h.2 e2;by_cases c:n.bQ=[]
  ·rw [if_pos c] at e1
   obtain ⟨h4,h5⟩:=tK d n s h.1 e1;exact ⟨⟨rfl,h4,h1⟩,by simp only [jx];omega,by simp only [aH.list,List.length_cons,Rd.Notes.len];omega⟩
  ·rw [if_neg c] at e1;cases e1
theorem Kl:∀ (d:Nat) (ks:Rd.Notes) (k:aH),Rd.fH d ks->iW ks=some k->kJ k/\jx k<=d/\k.list.length=ks.len
 | d,.nil,k,_,e=>by
  rw [iW] at e
  cases e
  exact ⟨trivial,Nat.zero_le _,rfl⟩
 | d,.cons n r,k,h,e=>by
  rw [iW] at e
  obtain ⟨s,r',e1,e2,rfl⟩:=Kf e;obtain ⟨h1,h2,h3⟩:=Kl d r r' h.2 e2;by_cases c:n.bQ=[]
  ·rw [if_pos c] at e1;cases e1
  ·rw [if_neg c] at e1
   obtain ⟨h4,h5⟩:=tK d n s h.1 e1;exact ⟨⟨YfU (Ok.bQ h.1) c,h4,h1⟩,by simp only [jx];omega,by simp only [aH.list,List.length_cons,Rd.Notes.len];omega⟩
end
theorem Yhn {t:List Nat} {s:Sh} (h:WQ t=some s):Gd s/\dp s<=7:=by
 unfold WQ at h
 cases e:Rd.parse t with
 | none=>rw [e] at h;cases h
 | some n =>
  rw [e] at h
  dsimp only at h;unfold dl at h;by_cases c:n.bQ=[]
  ·rw [if_pos c] at h;exact tK 7 n s (Rd.lO e) h
  ·rw [if_neg c] at h;cases h
def aO:Sh->List Sh
 | .row ks=>ks.list.map (·.2)
 | .pick ks=>ks.list.map (·.2)
 | .one _ s=>[s]
 | .alike s _=>[s]
 | _=>[]
def eN (H:Hp) (ss:List Sh) (us:List V):Prop:=us.length=ss.length/\∀ (i:Nat) u z,us[i]?=some u->ss[i]?=some z->SA H z u
theorem eN.keep {H H':Hp} (t:Tk H H') {ss:List Sh} {us:List V} (h:eN H ss us):eN H' ss us:=⟨h.1,fun i u z a b=>(h.2 i u z a b).keep t⟩
theorem eN.nil {H:Hp}:eN H [] []:=⟨rfl,fun i u z h=>by simp at h⟩
theorem eN.one {H:Hp} {s:Sh} {v:V} (h:SA H s v):eN H [s] [v]:=⟨rfl,fun i u z a b=>by
 match i with
 | 0=>cases a;cases b;exact h
 | i+1=>simp at a⟩
theorem eN.app {H:Hp} {s1 s2:List Sh} {u1 u2:List V} (h1:eN H s1 u1) (h2:eN H s2 u2):eN H (s1++s2) (u1++u2):=by
 refine ⟨by rw [List.length_append,List.length_append,h1.1,h2.1],fun i u z a b=>?_⟩;by_cases hi:i<u1.length
 ·rw [List.getElem?_append_left hi] at a
  rw [List.getElem?_append_left (by rw [<- h1.1];exact hi)] at b
  exact h1.2 i u z a b
 ·rw [List.getElem?_append_right (by omega)] at a
  rw [List.getElem?_append_right (by rw [<- h1.1];omega),<- h1.1] at b
  exact h2.2 _ u z a b
def gR:Sh->Mk
 | .use _ => .use
 | .whole _ _ => .whole
 | .text _ => .text
 | .row _ => .row
 | .one m _=>m
 | .alike _ _ => .alike
 | .pick _ => .pick
theorem SA.mk {H:Hp} {s:Sh} {v:V} (h:SA H s v):∃ a r,v = .ref a/\H a=some (.tup (.str (ms (gR s))::r)):=by
 cases s with
 | use w=>obtain ⟨a,e,ha⟩:=h;exact ⟨a,_,e,ha⟩
 | whole i j=>obtain ⟨a,e,ha⟩:=h;exact ⟨a,_,e,ha⟩
 | text w=>obtain ⟨a,e,ha⟩:=h;exact ⟨a,_,e,ha⟩
 | row ks=>obtain ⟨a,b,us,e,ha,_⟩:=h;exact ⟨a,_,e,ha⟩
 | pick ks=>obtain ⟨a,b,us,e,ha,_⟩:=h;exact ⟨a,_,e,ha⟩
 | one m s=>obtain ⟨a,w,e,ha,_⟩:=h;exact ⟨a,_,e,ha⟩
 | alike s t=>obtain ⟨a,w,e,ha,_⟩:=h;exact ⟨a,_,e,ha⟩
def za (K:PySem.W.Frag):Sp:=fun vs H Q _=>∃ (s:Sh) (v:V),vs=[v]/\SA H s v/\Gd s/\∀ p us H',Same H H'->H p=none->H' p=some (.lst us)->eN H' (aO s) us->Q (.ref p) H'
local macro_rules | `(tactic| walk_at "sd")=>`(tactic| simp (config:={ failIfUnchanged:=false,maxSteps:=10000000 }) only [yU,Yhl,Yh7,CK,JL,JM,JN,JQ,Yh8,Wx,Yhm,Yh9,Bool.or_false,Bool.false_or,Bool.or_self,Bool.true_or,Bool.or_true,reduceCtorEq,V.str.injEq,or_false,false_or,or_true,true_or,or_self,not_true_eq_false,not_false_eq_true,if_true,if_false,ite_true,ite_false,decide_true,decide_false,Bool.false_eq_true,and_true,true_and,and_false,false_and,false_implies,true_implies])
theorem YcM  (R:g.Raw "parts_of" "parts_of" xr ["shape"]) (gJ:g.mg "list"=none) (ZH:g.lJ "OF_ONE_PART" ([.str "many",.str "rising",.str "unlike"])):g.Fn (1) "parts_of" ["shape"] (za g.K):=by
 refine R.fn HN (fun vs H Q E h=>by obtain ⟨s,v,rfl,hs,hg,q⟩:=h;rfl) fun f_ cdv A outer s H vs Q E hr h=>?_
 obtain ⟨s,v,rfl,hs,hg,q⟩:=h;refine ⟨_,(Yc (YB (i:=1) HN.nd rfl (.inl rfl) (Yr Yx (pv 0) Ye (fun _ _=>rfl)))
   (Yc (Yo (Yk YG (pv 1) Yg (Yl _)) (Yd (Yj (XZ gJ Sw (Ya (Yr Yx (pv 0) Ye (fun _ _=>rfl)) Yb)))) Yi)
   (Yc (Yo (Yk YG (pv 1) Yg (Yl _)) (Yd (Yj (XQ (g:=Wp g.K 2 (Y5 (YD 0) (Y5 (YD 1) Wo))) (src:=[none,none]) (N':=(["mark","part"]:List Str)) (.own (.own .nil)) rfl (Up (Yr Yx (pv 0) Ye (fun _ _=>rfl))) (fun cl C s₀ H₀ fp pn=>(X8 (n:=2) rfl (YW (Yv (i:=0) (show List.Nodup (["mark","part"]:List Str) by decide +kernel) rfl (.inl rfl) (.inr rfl)) (YW (Yv (i:=1) (show List.Nodup (["mark","part"]:List Str) by decide +kernel) rfl (.inl rfl) (.inr rfl)) XX)))) (fun cl C s₀ H₀ fp pn=>Y4) (fun cl C s₀ H₀ fp pn=>(pv 1)) (by intro x hx;simp at hx)))) Yi)
   (Yc (Yo (VZ (Yk YG (pv 1) Yg (Yl _)) (Vk (Yk Xk (pv 1) (Gm ZH) rfl))).pt (Yd (Yj (Xb (Ya (Yr Yx (pv 0) Ye (fun _ _=>rfl)) Yb)))) Yi)
   (Yd (Yj (Xb Yb))))))),?_⟩
 obtain ⟨a0,r0,rfl,h0⟩:=hs.mk;refine Xq (fun σ H'=>σ=[some (.ref a0),some (.str (ms (gR s)))]/\H=H') ?_ (fun N hN=>by walk_at "rd";exact ⟨_,aD.of h0,_,Yz (j:=0) rfl,hN _ _ ⟨rfl,rfl⟩⟩);rintro σ H' ⟨rfl,eH⟩;subst eH
 cases s with
 | use w =>
  obtain ⟨a,ea,ha⟩:=hs
  cases ea
  dsimp only [gR]
  repeat (first | refine YX (i:=1) rfl (by decide +kernel) ?_ | refine Y3 (i:=1) rfl rfl ?_)
  walk_at "rd";walk_at "sd";intro c hc;refine ⟨_,.inr hc,rfl,rfl,?_⟩;walk_at "sd";exact ⟨few (by decide),fun p hp=>q p [] _ (.ao hp _) hp Yf .nil⟩
 | whole i j =>
  obtain ⟨a,ea,ha⟩:=hs
  cases ea
  dsimp only [gR]
  repeat (first | refine YX (i:=1) rfl (by decide +kernel) ?_ | refine Y3 (i:=1) rfl rfl ?_)
  walk_at "rd";walk_at "sd";intro c hc;refine ⟨_,.inr hc,rfl,rfl,?_⟩;walk_at "sd";exact ⟨few (by decide),fun p hp=>q p [] _ (.ao hp _) hp Yf .nil⟩
 | text w =>
  obtain ⟨a,ea,ha⟩:=hs
  cases ea
  dsimp only [gR]
  repeat (first | refine YX (i:=1) rfl (by decide +kernel) ?_ | refine Y3 (i:=1) rfl rfl ?_)
  walk_at "rd";walk_at "sd";intro c hc;refine ⟨_,.inr hc,rfl,rfl,?_⟩;walk_at "sd";exact ⟨few (by decide),fun p hp=>q p [] _ (.ao hp _) hp Yf .nil⟩
 | row ks =>
  obtain ⟨a,b,us,ea,ha,hb,hk⟩:=hs
  cases ea
  obtain ⟨k1,k2⟩:=KA.iff.mp hk;dsimp only [gR]
  repeat (first | refine YX (i:=1) rfl (by decide +kernel) ?_ | refine Y3 (i:=1) rfl rfl ?_)
  walk_at "rd";walk_at "sd";refine ⟨_,aD.of ha,_,rfl,b,rfl,us,.inr (aD.of hb),fun p hp=>q p us _ (.ao hp _) hp Yf ⟨by simp [aO,k1],fun i u z a b=>?_⟩⟩;simp only [aO,List.getElem?_map] at b;obtain ⟨y,hy,rfl⟩:=Option.map_eq_some_iff.mp b;exact (k2 i u y a hy).keep (.of (.ao hp _))
 | pick ks =>
  obtain ⟨a,b,us,ea,ha,hb,hk⟩:=hs
  cases ea
  obtain ⟨k1,k2⟩:=KB.iff.mp hk;have zf:ks.list.length<=10:=hg.2.1;have hw:∀ i,i<us.length->∃ (T:Addr) (w:V),us[i]?=some (.ref T)/\H T=some (.tup [.str (S (ks.list.getD i ([],.row .nil)).1),w])/\SA H (ks.list.getD i ([],.row .nil)).2 w:=fun i hi=>by
   have e1:us[i]?=some us[i]:=List.getElem?_eq_getElem hi;have e2:ks.list[i]?=some (ks.list.getD i ([],.row .nil)):=by
    rw [List.getD_eq_getElem?_getD,List.getElem?_eq_getElem (by omega)];rfl
   obtain ⟨T,w,h1,h2,h3⟩:=k2 i _ _ e1 e2;exact ⟨T,w,by rw [e1,h1],h2,h3⟩
  have hws:∃ ws:List V,ws.length=us.length/\∀ i w,ws[i]?=some w->∃ T,us[i]?=some (.ref T)/\H T=some (.tup [.str (S (ks.list.getD i ([],.row .nil)).1),w])/\SA H (ks.list.getD i ([],.row .nil)).2 w:=by
   refine ⟨(List.range us.length).map fun i=>if h:i<us.length then (hw i h).choose_spec.choose else .non,by simp,fun i w e=>?_⟩;rw [List.getElem?_map] at e
   obtain ⟨j,ej,rfl⟩:=Option.map_eq_some_iff.mp e;have hj:=(List.getElem?_eq_some_iff.mp ej).1;rw [List.length_range] at hj
   have:j=i:=by
    rw [List.getElem?_range hj] at ej
    exact (Option.some.inj ej).symm
   subst this;rw [dif_pos hj];exact ⟨_,(hw j hj).choose_spec.choose_spec⟩
  obtain ⟨ws,hwl,hws⟩:=hws;dsimp only [gR]
  repeat (first | refine YX (i:=1) rfl (by decide +kernel) ?_ | refine Y3 (i:=1) rfl rfl ?_)
  walk_at "rd";walk_at "sd";refine Ub (K:=g.K) (b:=b) (xs:=us) ((ks.list.zip ws).map fun p=>(V.str (S p.1.1),p.2)) ws (fun R r=>by walk_at "rd";exact ⟨_,aD.of ha,_,rfl,r⟩) (aD.of hb) ?_ (by rw [List.length_map,List.length_zip];omega) hwl (by omega) ?_ ?_
  ·intro i x p hx hp
   rw [List.getElem?_map] at hp
   obtain ⟨⟨y,w⟩,hz,rfl⟩:=Option.map_eq_some_iff.mp hp;rw [List.getElem?_zip_eq_some] at hz
   obtain ⟨T,e1,e2,_⟩:=hws i w hz.2;rw [hx] at e1
   have:=Option.some.inj e1;subst this;refine ⟨T,rfl,aD.of ?_⟩;rw [List.getD_eq_getElem?_getD,hz.1] at e2
   exact e2
  ·intro i p y H' hp hy sm R r
   rw [List.getElem?_map] at hp
   obtain ⟨⟨z,w⟩,hz,rfl⟩:=Option.map_eq_some_iff.mp hp;rw [List.getElem?_zip_eq_some] at hz
   rw [hz.2] at hy
   cases hy
   walk_at "rd";exact r H' (.refl _)
  ·intro D H' hD sm hd
   refine q D ws H' sm hD hd ⟨by simp [aO];omega,fun i u z a b=>?_⟩;simp only [aO,List.getElem?_map] at b;obtain ⟨y,hy,rfl⟩:=Option.map_eq_some_iff.mp b;obtain ⟨T,_,_,e3⟩:=hws i u a;rw [List.getD_eq_getElem?_getD,hy] at e3
   exact e3.keep (.of sm)
 | one m s =>
  obtain ⟨a,w,ea,ha,hs⟩:=hs
  cases ea
  rcases hg.1 with rfl | rfl | rfl
  all_goals
   dsimp only [gR]
   repeat (first | refine YX (i:=1) rfl (by decide +kernel) ?_ | refine Y3 (i:=1) rfl rfl ?_)
   walk_at "rd";walk_at "sd";intro c hc;refine ⟨_,.inr hc,rfl,rfl,?_⟩;walk_at "sd";exact ⟨_,aD.of ha,_,rfl,few (by decide),fun p hp=>q p [w] _ (.ao hp _) hp Yf (.one (hs.keep (.of (.ao hp _))))⟩
 | alike s t =>
  obtain ⟨a,w,ea,ha,hs⟩:=hs
  cases ea
  dsimp only [gR]
  repeat (first | refine YX (i:=1) rfl (by decide +kernel) ?_ | refine Y3 (i:=1) rfl rfl ?_)
  walk_at "rd";walk_at "sd";exact ⟨_,aD.of ha,_,rfl,few (by decide),fun p hp=>q p [w] _ (.ao hp _) hp Yf (.one (hs.keep (.of (.ao hp _))))⟩
mutual
def wi:Sh->List Sh
 | .use w=>[.use w]
 | .whole i j=>[.whole i j]
 | .text w=>[.text w]
 | .row ks => .row ks::kW ks
 | .pick ks => .pick ks::kW ks
 | .one m s => .one m s::wi s
 | .alike s t => .alike s t::wi s
def kW:aH->List Sh
 | .nil=>[]
 | .cons _ s r=>wi s++kW r
end
theorem Km:∀ ks:aH,kW ks=(ks.list.map (·.2)).flatMap wi
 | .nil=>rfl
 | .cons l s r=>by
  rw [kW,Km r];rfl
theorem Vf (s:Sh):wi s=s::(aO s).flatMap wi:=by
 cases s<;>simp [wi,aO,Km]
theorem WY {s z:Sh} (h:z∈aO s):dp z<dp s:=by
 cases s with
 | row ks =>
  obtain ⟨p,hp,rfl⟩:=List.mem_map.mp h;have:=JT hp;simp only [dp];omega
 | pick ks =>
  obtain ⟨p,hp,rfl⟩:=List.mem_map.mp h;have:=JT hp;simp only [dp];omega
 | one m s=>simp [aO] at h;subst h;simp only [dp];omega
 | alike s t=>simp [aO] at h;subst h;simp only [dp];omega
 | _=>simp [aO] at h
theorem Vt {s z:Sh} (hg:Gd s) (h:z∈aO s):Gd z:=by
 cases s with
 | row ks =>
  obtain ⟨p,hp,rfl⟩:=List.mem_map.mp h;exact (hg.2.mem hp).2
 | pick ks =>
  obtain ⟨p,hp,rfl⟩:=List.mem_map.mp h;exact (hg.2.2.mem hp).2
 | one m s=>simp [aO] at h;subst h;exact hg.2
 | alike s t=>simp [aO] at h;subst h;exact hg.2.2
 | _=>simp [aO] at h
theorem Yho {s:Sh} (hg:Gd s):(aO s).length<=10:=by
 cases s with
 | row ks=>have:=hg.1;simp [aO];omega
 | pick ks=>have:=hg.2.1;simp [aO];omega
 | _=>simp [aO]
theorem zj:∀ {s:Sh} {n:Nat} {z:Sh},dp s<n->Gd s->z∈wi s->Gd z:=fun {s n z} hn hg h=>by
 induction n generalizing s with
 | zero=>omega
 | succ n ih =>
  rw [Vf] at h
  rcases List.mem_cons.mp h with rfl | h
  ·exact hg
  ·obtain ⟨y,hy,hz⟩:=List.mem_flatMap.mp h
   exact ih (by have:=WY hy;omega) (Vt hg hy) hz
def rep:Nat->Nat
 | 0=>1
 | n+1=>10*rep n+1
theorem YfW {l:List Sh} {n:Nat} (h:∀ z∈l,(wi z).length<=rep n):(l.flatMap wi).length<=l.length*rep n:=by
 induction l with
 | nil=>simp
 | cons a l ih =>
  rw [List.flatMap_cons,List.length_append,List.length_cons,Nat.add_mul,Nat.one_mul];have h1:=h a (by simp);have h2:=ih fun z hz=>h z (by simp [hz])
  omega
theorem Yie:∀ {n:Nat} {s:Sh},dp s<=n->Gd s->(wi s).length<=rep n:=fun {n s} hn hg=>by
 induction n generalizing s with
 | zero =>
  have:aO s=[]:=by
   cases e:aO s with
   | nil=>rfl
   | cons z r =>
    have:=WY (s:=s) (z:=z) (by rw [e];simp);omega
  rw [Vf,this];simp [rep]
 | succ n ih =>
  rw [Vf,List.length_cons];have h1:=YfW (l:=aO s) (n:=n) fun z hz=>ih (by have:=WY hz;omega) (Vt hg hz)
  have h2:=Yho hg;have h3:=Nat.mul_le_mul_right (rep n) h2;simp only [rep];omega
theorem Yif {s:Sh} (hd:dp s<=7) (hg:Gd s):(wi s).length<=12000000:=Nat.le_trans (Yie hd hg) (by decide)
def ZV (K:PySem.W.Frag) (m:Nat):Sp:=fun vs H Q _=>∃ (s:Sh) (v:V),vs=[v]/\SA H s v/\Gd s/\dp s<m/\(wi s).length<=12000000/\∀ p us H',Same H H'->H p=none->H' p=some (.lst us)->eN H' (wi s) us->Q (.ref p) H'
theorem CP {K:PySem.W.Frag} {vs:List V} {H:Hp} {Q:VK} {E:XK} (h:ZV K 0 vs H Q E):False:=by
 obtain ⟨_,_,_,_,_,h,_⟩:=h;omega
theorem Ko {l:List Sh} {i:Nat} {z:Sh} (h:l[i]?=some z):(l.take (i+1)).flatMap wi=(l.take i).flatMap wi++wi z:=by
 obtain ⟨hi,e⟩:=List.getElem?_eq_some_iff.mp h;rw [List.take_succ_eq_append_getElem hi,List.flatMap_append,e];simp
theorem YfX {l:List Sh} {i:Nat} {z:Sh} (h:l[i]?=some z):((l.take i).flatMap wi).length+(wi z).length<=(l.flatMap wi).length:=by
 have e:=Ko h;have e2:l=l.take (i+1)++l.drop (i+1):=(List.take_append_drop _ _).symm;have e3:(l.flatMap wi).length=((l.take (i+1)).flatMap wi).length+((l.drop (i+1)).flatMap wi).length:=by
  rw [<- List.length_append,<- List.flatMap_append,<- e2]
 rw [e,List.length_append] at e3
 omega
theorem Zw {k:Nat}  (R:g.Raw "shapes_within" "shapes_within" xu ["shape"]) (zm:g.Fn k "parts_of" ["shape"] (za g.K)) (ZQ:g.Fn k "shapes_within" ["shape"] (ZV g.K m)):g.Fn (k+1) "shapes_within" ["shape"] (ZV g.K (m+1)):=by
 refine R.fn xG (fun vs H Q E h=>by obtain ⟨s,v,rfl,hs,hg,hd,hl,q⟩:=h;rfl) fun f_ cdv A outer s H vs Q E hr h=>?_
 obtain ⟨s,v,rfl,hs,hg,hd,hl,q⟩:=h;refine ⟨_,(Yc (YB (i:=1) xG.nd rfl (.inl rfl) (Xb (Ya (pv 0) Yb)))
   (Yc (Xs PassesOwn.never rfl (Y9 (YM zm hr (Ya (pv 0) Yb))) (Yv (i:=2) xG.nd rfl (.inl rfl)) (Yd (YY (XF PySem.F.plainAttrs_list PySem.F.slot_list_extend PySem.F.type_list_extend SM (pv 1) (Ya (YM ZQ hr (Ya (pv 2) Yb)) Yb)))))
   (Yd (Yj (pv 1))))),?_⟩
 walk_at "rd";refine ⟨few (by decide),fun p hp=>?_⟩;have u:=Same.ao hp (.lst [v]);have hwi:=Vf s;have hwl:(wi s).length=((aO s).flatMap wi).length+1:=by rw [hwi,List.length_cons]
 refine UD (K:=g.K) (fun c xs H1=>Same H H1/\H1 p=some (.lst [v])/\H1 c=some (.lst xs)/\c≠p/\eN H1 (aO s) xs) (fun R r=>?_) ?_
 ·walk_at "rd"
  exact ⟨s,v,rfl,hs.keep (.of u),hg,fun c us H1 s1 hc h1 h2=>r c us H1 ⟨u.trans s1,s1 _ _ Yf,h1,(YF Yf hc).symm,h2⟩⟩
 ·rintro c xs H1 ⟨s1,h1,h2,zp,h3⟩
  refine ⟨fun i σ' H'=>∃ o us,σ'=[some v,some (.ref p),o]/\Same H H'/\H' c=some (.lst xs)/\eN H' (aO s) xs/\H' p=some (.lst us)/\eN H' (s::((aO s).take i).flatMap wi) us,⟨none,[v],rfl,s1,h2,h3,h1,by simpa using eN.one (hs.keep (.of s1))⟩,fun i σ' H' _ ⟨o,us,_,_,h,_⟩=>au.of h,?_,?_⟩
  ·rintro i x σ' H' hx ⟨o,us,rfl,s2,h4,h5,h6,h7⟩
   have hi:=(List.getElem?_eq_some_iff.mp hx).1;have hz:(aO s)[i]?=some ((aO s)[i]'(by rw [<- h5.1];exact hi)):=List.getElem?_eq_getElem _;generalize (aO s)[i]'(by rw [<- h5.1];exact hi)=z at hz;have eZ:=List.mem_of_getElem? hz;have hfl:=YfX hz;walk_at "rd";refine ⟨.inl ⟨rfl,_,au.of h6⟩,z,x,rfl,h5.2 i x z hx hz,Vt hg eZ,by have:=WY eZ;omega,by omega,fun p2 gj H3 s3 hp2 h8 h9=>?_⟩;have h6':=s3 _ _ h6;have tk:Tk H3 (upd H3 p (.lst (us++gj))):=fun a ys ha=>by rw [Yq (W6 ha h6' (by intro z;cases z))];exact ha
   refine ⟨p,p2,us,gj,rfl,rfl,h6',h8,?_,?_⟩
   ·have:=h7.1
    have:=h9.1;rw [List.length_cons] at *
    exact Nat.le_trans (by omega) (show 12000000<=sizeLine by decide)
   ·refine ⟨.cu hp (s2.trans s3) _,?_,h5.keep ((Tk.of s3).trans tk),us++gj,Yf,?_⟩
    ·rw [Yq zp];exact s3 _ _ h4
    ·rw [Ko hz,<- List.cons_append]
     exact (h7.keep ((Tk.of s3).trans tk)).app (h9.keep tk)
  ·rintro σ' H' ⟨o,us,rfl,s2,h4,h5,h6,h7⟩
   rw [h5.1,List.take_length,<- hwi] at h7
   walk_at "rd";exact q p us H' s2 hp h6 h7
theorem tL (w:List Nat) (i:Nat):sg (S w) i=S [w.getD i 0]:=by
 unfold sg S;simp [Array.getD_eq_getD_getElem?,List.getD_eq_getElem?_getD]
theorem Kp (w:List Nat):(S w).cps.size=w.length:=Ys w
theorem Yig {w:List Nat} {i j:Nat} (h:sg (S w) i=sg (S w) j):w.getD i 0=w.getD j 0:=by
 rw [tL,tL] at h
 have:=Y8 h;simpa using this
theorem Kq {val:Nat->Str}:∀ {n i:Nat},i<n->(met val n).any (·==val i)=true
 | n+1,i,h=>by
  rw [WN,GQ];by_cases e:i=n
  ·subst e;simp
  ·rw [Kq (n:=n) (i:=i) (by omega),Bool.true_or]
theorem zq {val:Nat->Str}:∀ {n i j:Nat},i<j->j<n->val i=val j->(met val n).length<n
 | n+1,i,j,h1,h2,h3=>by
  have hl:=wj val n;rw [WN,GR];by_cases e:j=n
  ·subst e
   rw [if_pos (by rw [<- h3];exact Kq h1)];omega
  ·have:=zq (val:=val) (n:=n) h1 (by omega) h3
   split<;>omega
theorem Ycf {w:List Nat} (h:w.Nodup):(met (sg (S w)) (S w).cps.size).length=w.length:=by
 rw [Kp,Q4,List.length_map,List.length_range];intro i j hi hj e;have e:=Yig e;have hp:=List.pairwise_iff_getElem.mp h i j (by omega) hj hi;rw [List.getD_eq_getElem?_getD,List.getD_eq_getElem?_getD,List.getElem?_eq_getElem hj,List.getElem?_eq_getElem (by omega)] at e
 exact hp e
theorem Yhp {w:List Nat} (h:¬ w.Nodup):(met (sg (S w)) (S w).cps.size).length<w.length:=by
 rw [Kp];have:¬ ∀ i j (hi:i<w.length) (hj:j<w.length),i<j->w[i]≠w[j]:=fun z=>h (List.pairwise_iff_getElem.mpr z)
 simp only [Classical.not_forall,Classical.not_not] at this;obtain ⟨i,j,hi,hj,hij,e⟩:=this;refine zq (i:=i) (j:=j) hij hj ?_;rw [tL,tL,List.getD_eq_getElem?_getD,List.getD_eq_getElem?_getD,List.getElem?_eq_getElem hi,List.getElem?_eq_getElem hj]
 show S [w[i]]=S [w[j]]
 rw [e]
theorem UZ {ts:List Str}:(met (fun i=>ts.getD i "") ts.length).length<ts.length↔¬ ts.Nodup:=by
 have get:∀ i (h:i<ts.length),ts.getD i ""=ts[i]:=fun i h=>by rw [List.getD_eq_getElem?_getD,List.getElem?_eq_getElem h];rfl
 by_cases h:ts.Nodup
 ·have:(met (fun i=>ts.getD i "") ts.length).length=ts.length:=by
   rw [Q4,List.length_map,List.length_range];intro i j hi hj e;rw [get i (by omega),get j hj] at e
   exact List.pairwise_iff_getElem.mp h i j (by omega) hj hi e
  exact ⟨fun z=>by omega,fun z=>(z h).elim⟩
 ·refine ⟨fun _=>h,fun _=>?_⟩
  have:¬ ∀ i j (hi:i<ts.length) (hj:j<ts.length),i<j->ts[i]≠ts[j]:=fun z=>h (List.pairwise_iff_getElem.mpr z)
  simp only [Classical.not_forall,Classical.not_not] at this;obtain ⟨i,j,hi,hj,hij,e⟩:=this;refine zq (i:=i) (j:=j) hij hj ?_;rw [get i hi,get j hj,e]
theorem U0 {ls:List (List Nat)}:(ls.map S).Nodup↔ls.Nodup:=by
 induction ls with
 | nil=>simp
 | cons a l ih =>
  rw [List.map_cons,List.nodup_cons,List.nodup_cons,ih];have:S a∈l.map S↔a∈l:=⟨fun h=>by
   obtain ⟨b,hb,e⟩:=List.mem_map.mp h;rw [<- Y8 e];exact hb,fun h=>List.mem_map.mpr ⟨a,h,rfl⟩⟩
  rw [this]
def iI (ks:aH):List (List Nat):=ks.list.map (·.1)
theorem KB.cols {K:PySem.W.Frag} {H:Hp}:∀ {ks:aH} {us:List V},KB H ks us->∃ ps:List (V×V),ps.length=us.length/\(∀ (i:Nat) x p,us[i]?=some x->ps[i]?=some p->∃ T,x = .ref T/\aD K H T [p.1,p.2])/\(∀ (i:Nat) p y,ps[i]?=some p->ks.list[i]?=some y->p.1 = .str (S y.1)/\SA H y.2 p.2)
 | .nil,us,e=>by
  have:us=[]:=e;subst this;exact ⟨[],rfl,fun i x p h=>by simp at h,fun i p y h=>by simp at h⟩
 | .cons l s r,us,⟨b,w,us',e,h0,h1,h2⟩=>by
  subst e;obtain ⟨ps,g1,g2,g3⟩:=KB.cols (K:=K) h2;refine ⟨(.str (S l),w)::ps,by simp [g1],fun i x p hx hp=>?_,fun i p y hp hy=>?_⟩
  ·match i with
   | 0=>cases hx;cases hp;exact ⟨b,rfl,aD.of h0⟩
   | i+1=>exact g2 i x p (by simpa using hx) (by simpa using hp)
  ·match i with
   | 0=>cases hp;cases hy;exact ⟨rfl,h1⟩
   | i+1=>exact g3 i p y (by simpa using hp) (by simpa [aH.list] using hy)
theorem KB.len {H:Hp} {ks:aH} {us:List V} (h:KB H ks us):us.length=ks.list.length:=(KB.iff.mp h).1
def Ap:Sh->Prop
 | .text w=>w.Nodup
 | .pick ks=>(iI ks).Nodup
 | _=>True
def Wz (s:Sh):Prop:=∀ z∈wi s,Ap z
def Rg:Sh->Prop
 | .whole i j=>i<=j
 | _=>True
def Range (s:Sh):Prop:=∀ z∈wi s,Rg z
def zu:Sh->Prop
 | .text _=>False
 | .pick _=>False
 | _=>True
theorem SA.plain {H:Hp} {s:Sh} {v:V} (h:SA H s v) (hg:Gd s) (hp:zu s):∃ (a:Addr) (m:Mk) (r:List V),v = .ref a/\H a=some (.tup (.str (ms m)::r))/\m ≠ .text/\m ≠ .pick:=by
 cases s with
 | use w=>obtain ⟨a,e,h⟩:=h;exact ⟨a,_,_,e,h,by decide,by decide⟩
 | whole i j=>obtain ⟨a,e,h⟩:=h;exact ⟨a,_,_,e,h,by decide,by decide⟩
 | text w=>exact hp.elim
 | row ks=>obtain ⟨a,b,us,e,h,_⟩:=h;exact ⟨a,_,_,e,h,by decide,by decide⟩
 | pick ks=>exact hp.elim
 | one m s =>
  obtain ⟨a,w,e,h,_⟩:=h;refine ⟨a,m,_,e,h,?_,?_⟩<;>(rcases hg.1 with rfl | rfl | rfl<;>decide)
 | alike s t=>obtain ⟨a,w,e,h,_⟩:=h;exact ⟨a,_,_,e,h,by decide,by decide⟩
def Kr (K:PySem.W.Frag) (CT:Addr):Sp:=fun vs H Q E=>∃ (s:Sh) (v:V),vs=[v]/\SA H s v/\Gd s/\dp s<=8/\(wi s).length<=12000000/\(Wz s->∀ H',Same H H'->Q .non H')/\(¬ Wz s->∀ H',Same H H'->E (.ref CT) none H')
theorem Z4A {k:Nat} {Z8:Addr} (R:g.Raw "refuse_twice" "refuse_twice" xH ["draft"]) (ZQ:g.Fn k "shapes_within" ["shape"] (ZV g.K 9)) (aA:g.mg "len"=none) (gW:g.mg "set"=none) (dD:g.mg "Twice"=some (.ref Z8)) (fQ:PySem.W.excIn g.K Z8 YU "ValueError.__new__"=true):g.aK (k+1) "refuse_twice" ["draft"] (Kr g.K Z8):=by
 refine R.fnX HS (fun vs H Q E h=>by obtain ⟨s,v,rfl,hs,hg,hd,hl,q,qe⟩:=h;rfl) fun f_ cdv A outer s H vs Q E hr h=>?_
 obtain ⟨s,v,rfl,hs,hg,hd,hl,q,qe⟩:=h;refine ⟨_,(Yd (Xs PassesOwn.leaving rfl (Y9 (YM ZQ hr (Ya (pv 0) Yb))) (Yv (i:=1) HS.nd rfl (.inl rfl)) (Yc (Yo (Um (Yk YG (Yr Yx (pv 1) Ye (fun _ _=>rfl)) Yg (Yl _)) (VO (Yk US (YJ aA W5 (Ya (XZ gW YaU (Ya (Yr Yx (pv 1) Ye (fun _ _=>rfl)) Yb)) Yb)) (YJ aA Xl (Ya (Yr Yx (pv 1) Ye (fun _ _=>rfl)) Yb)) (Yl _)))).pt (Yd (YK ⟨dD,fQ⟩ Y0 (Ya Yg Yb))) Yi)
   (Yd (Yo (Um (Yk YG (Yr Yx (pv 1) Ye (fun _ _=>rfl)) Yg (Yl _)) (VO (Yk US (YJ aA W5 (Ya (XZ gW Uk (Ya (XQ (g:=Wp g.K 2 (Y5 (YD 0) (Y5 (YD 1) Wo))) (src:=[none,none]) (N':=(["mark","part"]:List Str)) (.own (.own .nil)) rfl (Up (Yr Yx (pv 1) Ye (fun _ _=>rfl))) (fun cl C s₀ H₀ fp pn=>(X8 (n:=2) rfl (YW (Yv (i:=0) (show List.Nodup (["mark","part"]:List Str) by decide +kernel) rfl (.inl rfl) (.inr rfl)) (YW (Yv (i:=1) (show List.Nodup (["mark","part"]:List Str) by decide +kernel) rfl (.inl rfl) (.inr rfl)) XX)))) (fun cl C s₀ H₀ fp pn=>Y4) (fun cl C s₀ H₀ fp pn=>(pv 0)) (by intro x hx;simp at hx)) Yb)) Yb)) (YJ aA YN (Ya (Yr Yx (pv 1) Ye (fun _ _=>rfl)) Yb)) (Yl _)))).pt (Yd (YK ⟨dD,fQ⟩ Y0 (Ya Yg Yb))) Yi))))),?_⟩
 have e1:∀ m m':Mk,m≠m'->¬ V.str (ms m)=V.str (ms m'):=fun m m' h z=>h (by have:=V.str.inj z;rwa [Wx] at this)
 refine UD (K:=g.K) (fun c xs H1=>Same H H1/\H1 c=some (.lst xs)/\eN H1 (wi s) xs) (fun R r=>?_) ?_
 ·walk_at "rd"
  exact ⟨s,v,rfl,hs,hg,by omega,hl,fun c us H1 s1 hc h1 h2=>r c us H1 ⟨s1,h1,h2⟩⟩
 ·rintro c xs H1 ⟨s1,h1,h2⟩
  refine ⟨fun i σ' H'=>∃ o,σ'=[some v,o]/\Same H H'/\H' c=some (.lst xs)/\eN H' (wi s) xs/\∀ j z,j<i->(wi s)[j]?=some z->Ap z,⟨none,rfl,s1,h1,h2,fun j z h=>by omega⟩,fun i σ' H' _ ⟨o,_,_,h,_⟩=>au.of h,?_,?_⟩
  ·rintro i x σ' H' hx ⟨o,rfl,s2,h4,h5,h6⟩
   have hi:=(List.getElem?_eq_some_iff.mp hx).1;have hz:(wi s)[i]?=some ((wi s)[i]'(by rw [<- h5.1];exact hi)):=List.getElem?_eq_getElem _;generalize (wi s)[i]'(by rw [<- h5.1];exact hi)=z at hz;have eZ:=List.mem_of_getElem? hz;have lQ:=zj (n:=9) (by omega) hg eZ;have hzs:=h5.2 i x z hx hz;have nx:Ap z->∀ j y,j<i+1->(wi s)[j]?=some y->Ap y:=fun ha j y hj hy=>by
    rcases Nat.lt_succ_iff_lt_or_eq.mp hj with hj | rfl
    ·exact h6 j y hj hy
    ·rw [hz] at hy;cases hy;exact ha
   have no:¬ Ap z->¬ Wz s:=fun h1 h2=>h1 (h2 z eZ)
   have plain:zu z->Ap z:=fun h=>by cases z<;>first | trivial | exact h.elim
   walk_at "rd";by_cases hp:zu z
   ·obtain ⟨a,m,r,rfl,ha1,n1,n2⟩:=hzs.plain lQ hp
    exact ⟨_,rfl,_,aD.of ha1,_,Yz (j:=0) rfl,rfl,Xc (e1 _ _ n1) ⟨_,rfl,_,aD.of ha1,_,Yz (j:=0) rfl,rfl,Xc (e1 _ _ n2) ⟨s2,h4,h5,nx (plain hp)⟩⟩⟩
   cases z with
   | text w =>
    obtain ⟨a,rfl,ha⟩:=hzs;have hwl:w.length<=62:=lQ.2.1;have hsw:=Ys w;walk_at "rd";refine ⟨_,aD.of ha,_,rfl,rfl,Xu rfl ⟨_,aD.of ha,_,rfl,S w,rfl,by omega,fun b hb=>?_⟩⟩;have u:=Same.ao hb (V7 b (met (sg (S w)) (S w).cps.size).length);refine ⟨_,Yf,_,aD.of (u _ _ ha),_,rfl,S w,rfl,few (by omega),Yw (fun c1=>⟨few (by decide),qe (no fun z=>?_) _ (s2.trans u)⟩) fun c1=>⟨_,aD.of (u _ _ ha),_,rfl,rfl,Xc (e1 .text .pick (by decide)) ⟨s2.trans u,u _ _ h4,h5.keep (.of u),nx ?_⟩⟩⟩
    ·rw [Ycf z] at c1
     omega
    ·by_cases z:w.Nodup
     ·exact z
     ·have:=Yhp z
      omega
   | pick ks =>
    obtain ⟨a,b,us,rfl,ha,hb,hk⟩:=hzs;have zf:ks.list.length<=10:=lQ.2.1;have zx:=hk.len;obtain ⟨ps,g1,g2,g3⟩:=KB.cols (K:=g.K) hk;walk_at "rd";refine ⟨_,aD.of ha,_,rfl,rfl,Xc (e1 .pick .text (by decide)) ⟨_,aD.of ha,_,rfl,rfl,Xu rfl ?_⟩⟩;refine Ub (K:=g.K) (b:=b) (xs:=us) ps (((iI ks).map S).map V.str) (fun R r=>by walk_at "rd";exact ⟨_,aD.of ha,_,rfl,r⟩) (aD.of hb) g2 g1 (by simp [iI,zx]) (by omega) ?_ ?_
    ·intro j p y H2 hp hy sm R r
     rw [List.getElem?_map,List.getElem?_map,iI,List.getElem?_map] at hy
     have hj:=(List.getElem?_eq_some_iff.mp hp).1;have hkj:ks.list[j]?=some (ks.list[j]'(by omega)):=List.getElem?_eq_getElem _;rw [hkj] at hy
     have hy':=Option.some.inj hy;subst hy';obtain ⟨z1,_⟩:=g3 j p _ hp hkj;walk_at "rd";rw [z1];exact r H2 (.refl _)
    ·intro D H2 hD sm hd
     have hml:((iI ks).map S).length=ks.list.length:=by simp [iI]
     refine ⟨D,rfl,(iI ks).map S,au.of hd,by omega,fun a2 ha2=>?_⟩;have u:=Same.ao ha2 (V7 a2 (met (fun i=>((iI ks).map S).getD i "") ((iI ks).map S).length).length);have s3:=sm.trans u;refine ⟨_,Yf,_,aD.of (s3 _ _ ha),_,rfl,b,rfl,us,.inr (aD.of (s3 _ _ hb)),Yw (fun c1=>⟨few (by decide),qe (no fun z=>?_) _ (s2.trans s3)⟩) fun c1=>⟨s2.trans s3,s3 _ _ h4,h5.keep (.of s3),nx ?_⟩⟩
     ·have z':(iI ks).Nodup:=z
      have:=mt UZ.mp (fun w=>w (U0.mpr z'));omega
     ·refine Classical.byContradiction fun z=>c1 ?_
      have:=UZ.mpr (fun w=>z (U0.mp w));omega
   | _=>exact (hp trivial).elim
  ·rintro σ' H' ⟨o,rfl,s2,h4,h5,h6⟩
   refine q (fun z hz=>?_) H' s2;obtain ⟨j,hj,e⟩:=List.mem_iff_getElem.mp hz;exact h6 j z (by rw [h5.1];exact hj) (by rw [List.getElem?_eq_getElem hj,e])
def jN:Sh->Prop
 | .whole _ _=>False
 | _=>True
theorem SA.jN {H:Hp} {s:Sh} {v:V} (h:SA H s v) (hg:Gd s) (hp:jN s):∃ (a:Addr) (m:Mk) (r:List V),v = .ref a/\H a=some (.tup (.str (ms m)::r))/\m ≠ .whole:=by
 cases s with
 | use w=>obtain ⟨a,e,h⟩:=h;exact ⟨a,_,_,e,h,by decide⟩
 | whole i j=>exact hp.elim
 | text w=>obtain ⟨a,e,h⟩:=h;exact ⟨a,_,_,e,h,by decide⟩
 | row ks=>obtain ⟨a,b,us,e,h,_⟩:=h;exact ⟨a,_,_,e,h,by decide⟩
 | pick ks=>obtain ⟨a,b,us,e,h,_⟩:=h;exact ⟨a,_,_,e,h,by decide⟩
 | one m s =>
  obtain ⟨a,w,e,h,_⟩:=h;refine ⟨a,m,_,e,h,?_⟩;rcases hg.1 with rfl | rfl | rfl<;>decide
 | alike s t=>obtain ⟨a,w,e,h,_⟩:=h;exact ⟨a,_,_,e,h,by decide⟩
def Ks (K:PySem.W.Frag) (CR:Addr):Sp:=fun vs H Q E=>∃ (s:Sh) (v:V),vs=[v]/\SA H s v/\Gd s/\dp s<=8/\(wi s).length<=12000000/\(Range s->∀ H',Same H H'->Q .non H')/\(¬ Range s->∀ H',Same H H'->E (.ref CR) none H')
theorem Z3m {k:Nat} {Z5:Addr} (R:g.Raw "refuse_no_range" "refuse_no_range" xJ ["draft"]) (ZQ:g.Fn k "shapes_within" ["shape"] (ZV g.K 9)) (eO:g.mg "NoRange"=some (.ref Z5)) (gK:PySem.W.excIn g.K Z5 YU "ValueError.__new__"=true):g.aK (k+1) "refuse_no_range" ["draft"] (Ks g.K Z5):=by
 refine R.fnX HW (fun vs H Q E h=>by obtain ⟨s,v,rfl,hs,hg,hd,hl,q,qe⟩:=h;rfl) fun f_ cdv A outer s H vs Q E hr h=>?_
 obtain ⟨s,v,rfl,hs,hg,hd,hl,q,qe⟩:=h;refine ⟨_,(Yd (Xs PassesOwn.leaving rfl (Y9 (YM ZQ hr (Ya (pv 0) Yb))) (Yv (i:=1) HW.nd rfl (.inl rfl)) (Yd (Yo (Um (Yk YG (Yr Yx (pv 1) Ye (fun _ _=>rfl)) Yg (Yl _)) (VO (Yk W8 (Yr Yx (pv 1) Ye (fun _ _=>rfl)) (Yr Yx (pv 1) Ye (fun _ _=>rfl)) (Yl _)))).pt (Yd (YK ⟨eO,gK⟩ Y0 (Ya Yg Yb))) Yi)))),?_⟩;have e1:∀ m m':Mk,m≠m'->¬ V.str (ms m)=V.str (ms m'):=fun m m' h z=>h (by have:=V.str.inj z;rwa [Wx] at this)
 refine UD (K:=g.K) (fun c xs H1=>Same H H1/\H1 c=some (.lst xs)/\eN H1 (wi s) xs) (fun R r=>?_) ?_
 ·walk_at "rd"
  exact ⟨s,v,rfl,hs,hg,by omega,hl,fun c us H1 s1 hc h1 h2=>r c us H1 ⟨s1,h1,h2⟩⟩
 ·rintro c xs H1 ⟨s1,h1,h2⟩
  refine ⟨fun i σ' H'=>∃ o,σ'=[some v,o]/\Same H H'/\H' c=some (.lst xs)/\eN H' (wi s) xs/\∀ j z,j<i->(wi s)[j]?=some z->Rg z,⟨none,rfl,s1,h1,h2,fun j z h=>by omega⟩,fun i σ' H' _ ⟨o,_,_,h,_⟩=>au.of h,?_,?_⟩
  ·rintro i x σ' H' hx ⟨o,rfl,s2,h4,h5,h6⟩
   have hi:=(List.getElem?_eq_some_iff.mp hx).1;have hz:(wi s)[i]?=some ((wi s)[i]'(by rw [<- h5.1];exact hi)):=List.getElem?_eq_getElem _;generalize (wi s)[i]'(by rw [<- h5.1];exact hi)=z at hz;have eZ:=List.mem_of_getElem? hz;have lQ:=zj (n:=9) (by omega) hg eZ;have hzs:=h5.2 i x z hx hz;have nx:Rg z->∀ j y,j<i+1->(wi s)[j]?=some y->Rg y:=fun ha j y hj hy=>by
    rcases Nat.lt_succ_iff_lt_or_eq.mp hj with hj | rfl
    ·exact h6 j y hj hy
    ·rw [hz] at hy;cases hy;exact ha
   have no:¬ Rg z->¬ Range s:=fun h1 h2=>h1 (h2 z eZ)
   have plain:jN z->Rg z:=fun h=>by cases z<;>first | trivial | exact h.elim
   by_cases hp:jN z
   ·obtain ⟨a,m,r,rfl,ha1,n1⟩:=hzs.jN lQ hp
    walk_at "rd";exact ⟨_,aD.of ha1,_,Yz (j:=0) rfl,rfl,Xc (e1 _ _ n1) ⟨s2,h4,h5,nx (plain hp)⟩⟩
   cases z with
   | whole k j =>
    obtain ⟨a,rfl,ha⟩:=hzs;walk_at "rd";refine ⟨_,aD.of ha,_,rfl,rfl,Xu rfl ⟨_,aD.of ha,_,rfl,_,aD.of ha,_,rfl,k,rfl,j,rfl,Yw (fun c1=>⟨few (by decide),qe (no fun z=>?_) H' s2⟩) fun c1=>⟨s2,h4,h5,nx ?_⟩⟩⟩
    ·have z':k<=j:=z
     omega
    ·show k<=j
     omega
   | _=>exact (hp trivial).elim
  ·rintro σ' H' ⟨o,rfl,s2,h4,h5,h6⟩
   refine q (fun z hz=>?_) H' s2;obtain ⟨j,hj,e⟩:=List.mem_iff_getElem.mp hz;exact h6 j z (by rw [h5.1];exact hj) (by rw [List.getElem?_eq_getElem hj,e])
theorem Yih {i:Int} (h:i.natAbs<10^60):dg i=[48]\/∃ c r,48<c/\c<=57/\(∀ d∈r,48<=d/\d<=57)/\r.length<=59/\(dg i=c::r\/dg i=45::c::r):=by
 by_cases h0:i.natAbs=0
 ·have:i=0:=by omega
  subst this;exact .inl (by decide +kernel)
 ·obtain ⟨c,r,e,hc⟩:=GK (n:=i.natAbs) (by omega)
  have hd:=VA i.natAbs;have hl:=QG (k:=60) (by decide) h;rw [e] at hd hl
  have hc':=hd c (.head _);refine .inr ⟨c,r,by omega,hc'.2,fun d hd'=>hd d (.tail _ hd'),by rw [List.length_cons] at hl;omega,?_⟩;rcases Int.natAbs_eq i with e1 | e1
  ·rw [e1];exact .inl e
  ·have:=Uz (n:=i.natAbs) (by omega)
   rw [<- e1,e] at this
   exact .inr this
theorem zy {i:Int} (h:i.natAbs<10^60):Rd.gw (dg i):=by
 have hl:=QG (k:=60) (by decide) h;have hd:=VA i.natAbs;have hne:=v9 i.natAbs;have hw:∀ c:Nat,48<=c/\c<=57->Rd.aG c=true:=fun c h=>by
  simp only [Rd.aG,Rd.cC,Rd.bx,decide_eq_true h.1,decide_eq_true h.2,Bool.and_self,Bool.or_true,Bool.true_or]
 have h1:1<=(dg (i.natAbs:Int)).length:=by
  rcases hh:dg (i.natAbs:Int) with _ | _
  ·exact (hne hh).elim
  ·simp
 rcases Int.natAbs_eq i with e | e
 ·rw [e]
  exact ⟨h1,by omega,fun c hc=>hw c (hd c hc)⟩
 ·by_cases h0:i.natAbs=0
  ·have e2:dg i=dg (i.natAbs:Int):=by rw [show i=0 by omega];rfl
   rw [e2];exact ⟨h1,by omega,fun c hc=>hw c (hd c hc)⟩
  ·have e2:dg i=45::dg (i.natAbs:Int):=by
    have:=Uz (n:=i.natAbs) (by omega);rw [<- e] at this
    exact this
   rw [e2];refine ⟨by simp,by rw [List.length_cons];omega,fun c hc=>?_⟩;rcases List.mem_cons.mp hc with rfl | hc
   ·decide
   ·exact hw c (hd c hc)
theorem VV {i:Int} (h:i.natAbs<10^60):i.natAbs.log2<1920:=by
 rcases Nat.eq_zero_or_pos i.natAbs with h0 | h0
 ·rw [h0];decide
 ·rw [Nat.log2_lt (by omega)]
  exact Nat.lt_trans h (by decide +kernel)
theorem Yhq {i:Int} (h:i.natAbs<10^60):Wf (dg i)=true:=by
 rcases Yih h with e | ⟨c,r,h1,h2,h3,h4,e | e⟩
 ·rw [e];decide
 ·rw [e]
  unfold Wf;have zA:¬ (c::r).head?=some 45:=by simp;omega
  have hf:(c::r).all Rd.bx=true:=by
   rw [List.all_eq_true];intro x hx;have:48<=x/\x<=57:=by
    rcases List.mem_cons.mp hx with rfl | hx
    ·omega
    ·exact h3 x hx
   simp [Rd.bx,this.1,this.2]
  rw [if_neg zA,hf,decide_eq_true (by simp:1<=(c::r).length),decide_eq_true (by simp;omega:(c::r).length<=60),show ((c::r).head?==some 48)=false by simp;omega];simp
 ·rw [e]
  unfold Wf;have zA:(45::c::r).head?=some 45:=rfl;have hf:(c::r).all Rd.bx=true:=by
   rw [List.all_eq_true];intro x hx;have:48<=x/\x<=57:=by
    rcases List.mem_cons.mp hx with rfl | hx
    ·omega
    ·exact h3 x hx
   simp [Rd.bx,this.1,this.2]
  rw [if_pos zA,List.drop_succ_cons,List.drop_zero,hf,decide_eq_true (by simp:1<=(c::r).length),decide_eq_true (by simp;omega:(c::r).length<=60),show ((c::r).head?==some 48)=false by simp;omega];simp
theorem zB {i:Int} (h:i.natAbs<10^60):Wy (.leaf [] (dg i))=some i:=JX (Yhq h) rfl h
theorem Y1 {m m':Mk} (h:m≠m'):mc m≠mc m':=fun z=>h (JR z)
theorem U1 (m:Mk):Rd.gw (mc m):=by
 cases m<;>exact ⟨by decide +kernel,by decide +kernel,by decide +kernel⟩
theorem UE (l:List Nat) (s:Sh):(nt l s).bQ=l:=by cases s<;>simp [nt,Rd.Note.bQ]
theorem Uc:∀ ks:aH,(gQ ks).list=ks.list.map fun p=>nt p.1 p.2
 | .nil=>rfl
 | .cons l s r=>by
  rw [gQ,Rd.Notes.list,Uc r];rfl
theorem Ku (ks:aH):(gQ ks).len=ks.list.length:=by rw [<- Rd.Notes.len_list,Uc,List.length_map]
theorem zE {l:List Nat} (h:Rd.aJ l=true):l≠[]:=fun z=>by rw [z] at h;exact absurd h (by decide)
theorem XW {l:List Nat} (h:Rd.aJ l=true):Rd.gb l:=by
 unfold Rd.aJ at h;rw [Bool.and_eq_true,Bool.and_eq_true] at h
 exact ⟨of_decide_eq_true h.1.2,List.all_eq_true.mp h.2⟩
mutual
theorem QL:∀ (s:Sh) (l:List Nat),Gd s->dn (nt l s)=some s
 | .use w,l,hg=>by rw [nt,dn,if_pos (show Rd.aJ w=true from hg)]
 | .whole i j,l,hg=>by
  rw [nt,dn,if_pos rfl,kO,zB hg.1,zB hg.2]
 | .text w,l,hg=>by
  rw [nt,dn,if_neg (Y1 (by decide)),if_pos rfl,jL,if_pos hg.2.2]
 | .row ks,l,hg=>by
  rw [nt,dn,if_neg (Y1 (by decide)),if_neg (Y1 (by decide)),if_pos rfl,Ku,if_pos hg.1,Kv ks hg.2];rfl
 | .pick ks,l,hg=>by
  rw [nt,dn,if_neg (Y1 (by decide)),if_neg (Y1 (by decide)),if_neg (Y1 (by decide)),if_neg (Y1 (by decide)),if_neg (Y1 (by decide)),if_neg (Y1 (by decide)),if_neg (Y1 (by decide)),if_pos rfl,Ku,if_pos ⟨hg.1,hg.2.1⟩,Kw ks hg.2.2];rfl
 | .one m s,l,hg=>by
  have e:=QL s [] hg.2;have h1:gB (.cons (nt [] s) .nil)=some s:=by rw [gB,if_pos (UE _ _),e]
  rw [nt,dn];rcases hg.1 with rfl | rfl | rfl
  ·rw [if_neg (Y1 (by decide)),if_neg (Y1 (by decide)),if_neg (Y1 (by decide)),if_pos rfl,h1];rfl
  ·rw [if_neg (Y1 (by decide)),if_neg (Y1 (by decide)),if_neg (Y1 (by decide)),if_neg (Y1 (by decide)),if_pos rfl,h1];rfl
  ·rw [if_neg (Y1 (by decide)),if_neg (Y1 (by decide)),if_neg (Y1 (by decide)),if_neg (Y1 (by decide)),if_neg (Y1 (by decide)),if_pos rfl,h1];rfl
 | .alike s t,l,hg=>by
  have e:=QL s [] hg.2.2;have ht:((t:Nat):Int).natAbs<10^60:=by rw [Int.natAbs_natCast];exact Nat.lt_of_le_of_lt hg.2.1 (by decide)
  have h1:∀ r,gB (.cons (nt [] s) r)=some s:=fun r=>by rw [gB,if_pos (UE _ _),e]
  have h2:p7 (.cons (nt [] s) (.cons (.leaf [] (dg (t:Int))) .nil))=some (t:Int):=zB ht;have g1:=hg.1;have g2:=hg.2.1;rw [nt,dn,if_neg (Y1 (by decide)),if_neg (Y1 (by decide)),if_neg (Y1 (by decide)),if_neg (Y1 (by decide)),if_neg (Y1 (by decide)),if_neg (Y1 (by decide)),if_pos rfl,h1,h2,jM,if_pos ⟨rfl,by omega,by omega⟩];rfl
theorem Kv:∀ ks:aH,kI ks->iV (gQ ks)=some ks
 | .nil,_=>by rw [gQ,iV]
 | .cons l s r,⟨h1,h2,h3⟩=>by
  subst h1;rw [gQ,iV,UE,if_pos rfl,QL s [] h2,Kv r h3];rfl
theorem Kw:∀ ks:aH,kJ ks->iW (gQ ks)=some ks
 | .nil,_=>by rw [gQ,iW]
 | .cons l s r,⟨h1,h2,h3⟩=>by
  rw [gQ,iW,UE,if_neg (zE h1),QL s l h2,Kw r h3];rfl
end
mutual
def bd:Sh->Nat
 | .use _=>0
 | .whole _ _=>1
 | .text _=>1
 | .row ks=>iz ks+1
 | .pick ks=>iz ks+1
 | .one _ s=>bd s+1
 | .alike s _=>bd s+1
def iz:aH->Nat
 | .nil=>0
 | .cons _ s r=>max (bd s) (iz r)
end
theorem VW {d:Nat} {l w:List Nat} (hl:Rd.gb l) (hw:Rd.gw w):Rd.Ok d (.leaf l w):=by cases d<;>exact ⟨hl,hw⟩
theorem WA:Rd.gb []:=⟨Nat.zero_le _,fun c h=>by cases h⟩
theorem CQ {l:List Nat} (h:Rd.aJ l=true):Rd.gw l:=by
 have h1:=XW h;have h2:1<=l.length:=by
  cases l with
  | nil=>exact absurd h (by decide)
  | cons x l=>simp
 exact ⟨h2,by have:=h1.1;omega,fun c hc=>Rd.iZ (h1.2 c hc)⟩
mutual
theorem U2:∀ (s:Sh) (l:List Nat) (d:Nat),Gd s->Rd.gb l->bd s<=d->Rd.Ok d (nt l s)
 | .use w,l,d,hg,hl,_=>VW hl (CQ hg)
 | .whole i j,l,d,hg,hl,h=>by
  simp only [bd] at h;obtain ⟨e,rfl⟩:∃ e,d=e+1:=⟨d - 1,by omega⟩;exact ⟨hl,U1 _,VW WA (zy hg.1),VW WA (zy hg.2),trivial⟩
 | .text w,l,d,hg,hl,h=>by
  simp only [bd] at h;obtain ⟨e,rfl⟩:∃ e,d=e+1:=⟨d - 1,by omega⟩;refine ⟨hl,U1 _,VW WA ⟨hg.1,hg.2.1,fun c hc=>?_⟩,trivial⟩;simp [Rd.aG,List.all_eq_true.mp hg.2.2 c hc]
 | .row ks,l,d,hg,hl,h=>by
  simp only [bd] at h;obtain ⟨e,rfl⟩:∃ e,d=e+1:=⟨d - 1,by omega⟩;exact ⟨hl,U1 _,Ky ks e hg.2 (by omega)⟩
 | .pick ks,l,d,hg,hl,h=>by
  simp only [bd] at h;obtain ⟨e,rfl⟩:∃ e,d=e+1:=⟨d - 1,by omega⟩;exact ⟨hl,U1 _,Kz ks e hg.2.2 (by omega)⟩
 | .one m s,l,d,hg,hl,h=>by
  simp only [bd] at h;obtain ⟨e,rfl⟩:∃ e,d=e+1:=⟨d - 1,by omega⟩;exact ⟨hl,U1 _,U2 s [] e hg.2 WA (by omega),trivial⟩
 | .alike s t,l,d,hg,hl,h=>by
  simp only [bd] at h;obtain ⟨e,rfl⟩:∃ e,d=e+1:=⟨d - 1,by omega⟩;have ht:((t:Nat):Int).natAbs<10^60:=by rw [Int.natAbs_natCast];exact Nat.lt_of_le_of_lt hg.2.1 (by decide)
  exact ⟨hl,U1 _,U2 s [] e hg.2.2 WA (by omega),VW WA (zy ht),trivial⟩
theorem Ky:∀ (ks:aH) (d:Nat),kI ks->iz ks<=d->Rd.fH d (gQ ks)
 | .nil,_,_,_=>trivial
 | .cons l s r,d,⟨h1,h2,h3⟩,h=>by
  simp only [iz] at h;exact ⟨U2 s l d h2 (by rw [h1];exact WA) (by omega),Ky r d h3 (by omega)⟩
theorem Kz:∀ (ks:aH) (d:Nat),kJ ks->iz ks<=d->Rd.fH d (gQ ks)
 | .nil,_,_,_=>trivial
 | .cons l s r,d,⟨h1,h2,h3⟩,h=>by
  simp only [iz] at h;exact ⟨U2 s l d h2 (XW h1) (by omega),Kz r d h3 (by omega)⟩
end
theorem KC {s:Sh} (hg:Gd s) (hb:bd s<=6):WQ (tt s)=some s/\Rd.bG 0 (tt s):=by
 have ok:=U2 s [] 6 hg WA hb;refine ⟨?_,(Rd.oK 6 _ 0 ok (by decide)).2⟩;rw [WQ,Rd.pY ok]
 show dl (nt [] s)=_
 rw [dl,if_pos (UE _ _),QL s [] hg]
def kd:Sh->Mk
 | .use _ => .use
 | .whole _ _ => .whole
 | .text _ => .text
 | .row _ => .row
 | .pick _ => .pick
 | .one m _=>m
 | .alike _ _ => .alike
def aN:Sh->List (List Nat)
 | .use _=>[]
 | .whole i j=>[dg i,dg j]
 | .text w=>[w]
 | .row ks=>ks.list.map fun p=>tt p.2
 | .pick ks=>ks.list.map fun p=>p.1++58::tt p.2
 | .one _ s=>[tt s]
 | .alike s t=>[tt s,dg (t:Int)]
theorem VC (w:List Nat):Rd.head [] w=w:=by unfold Rd.head;rw [if_pos rfl]
theorem UF:∀ ns:Rd.Notes,Rd.cB ns=Yp [44] (ns.list.map Rd.txt)
 | .nil=>rfl
 | .cons n .nil=>rfl
 | .cons n (.cons m r)=>by
  have ih:=UF (.cons m r)
  show Rd.txt n++44::Rd.cB (.cons m r)=Rd.txt n++[44]++Yp [44] (Rd.txt m::r.list.map Rd.txt)
  rw [ih];simp [Rd.Notes.list]
theorem Yhr {l:List Nat} (h:l≠[]) (s:Sh):Rd.txt (nt l s)=l++58::tt s:=by
 have hh:∀ w,Rd.head l w=l++58::w:=fun w=>by unfold Rd.head;rw [if_neg h]
 cases s<;>simp [nt,Rd.txt,tt,hh,VC]
theorem Vu (w:List Nat):tt (.use w)=w:=by simp [tt,nt,Rd.txt,VC]
theorem WB {s:Sh} (hg:Gd s) (hu:∀ w,s ≠ .use w):tt s=mc (kd s)++40::(Yp [44] (aN s)++[41]):=by
 cases s with
 | use w=>exact (hu w rfl).elim
 | whole i j=>simp [tt,nt,Rd.txt,Rd.cB,VC,kd,aN,Yp]
 | text w=>simp [tt,nt,Rd.txt,Rd.cB,VC,kd,aN,Yp]
 | row ks =>
  have:(gQ ks).list.map Rd.txt=aN (.row ks):=by
   rw [Uc,List.map_map];refine List.map_congr_left fun p hp=>?_
   show Rd.txt (nt p.1 p.2)=tt p.2
   rw [(hg.2.mem hp).1]
  simp only [tt,nt,Rd.txt,VC,kd];rw [UF,this]
 | pick ks =>
  have:(gQ ks).list.map Rd.txt=aN (.pick ks):=by
   rw [Uc,List.map_map];refine List.map_congr_left fun p hp=>?_
   exact Yhr (zE (hg.2.2.mem hp).1) p.2
  simp only [tt,nt,Rd.txt,VC,kd];rw [UF,this]
 | one m s=>simp [tt,nt,Rd.txt,Rd.cB,VC,kd,aN,Yp]
 | alike s t=>simp [tt,nt,Rd.txt,Rd.cB,VC,kd,aN,Yp]
theorem zF {s:Sh} (hg:Gd s) (hu:∀ w,s ≠ .use w):((aN s).map List.length).sum+(aN s).length+4<=(tt s).length:=by
 have h1:=Gg 44 (aN s);have h2:=(Wa (kd s)).1;rw [WB hg hu];simp only [List.length_append,List.length_cons,List.length_nil];omega
theorem KD:∀ {ls:List (List Nat)} {l:List Nat},l∈ls->l.length<=(ls.map List.length).sum
 | a::ls,l,h=>by
  rw [List.map_cons,List.sum_cons];rcases List.mem_cons.mp h with rfl | h
  ·omega
  ·have:=KD h;omega
theorem QM {s z:Sh} (hg:Gd s) (h:z∈aO s):(tt z).length+4<=(tt s).length:=by
 have hu:∀ w,s ≠ .use w:=fun w e=>by rw [e] at h;simp [aO] at h
 have hs:=zF hg hu;have:∃ l∈aN s,(tt z).length<=l.length:=by
  cases s with
  | row ks =>
   obtain ⟨p,hp,rfl⟩:=List.mem_map.mp h;exact ⟨tt p.2,List.mem_map.mpr ⟨p,hp,rfl⟩,Nat.le_refl _⟩
  | pick ks =>
   obtain ⟨p,hp,rfl⟩:=List.mem_map.mp h;exact ⟨p.1++58::tt p.2,List.mem_map.mpr ⟨p,hp,rfl⟩,by simp;omega⟩
  | one m s=>simp [aO] at h;subst h;exact ⟨_,by simp [aN],Nat.le_refl _⟩
  | alike s t=>simp [aO] at h;subst h;exact ⟨_,by simp [aN],Nat.le_refl _⟩
  | _=>simp [aO] at h
 obtain ⟨l,hl,hz⟩:=this;have:=KD hl;omega
theorem UG:Str.ofString "("=S [40]:=by decide +kernel
theorem lR:Str.ofString ")"=S [41]:=by decide +kernel
theorem lU:Str.ofString ","=S [44]:=by decide +kernel
theorem KH:Str.ofString ":"=S [58]:=by decide +kernel
def aF (xs:List (List Nat)):List V:=xs.map fun x=>V.str (S x)
def U3 (K:PySem.W.Frag) (m:Nat):Sp:=fun vs H Q _=>∃ (s:Sh) (v:V),vs=[v]/\SA H s v/\Gd s/\dp s<m/\(tt s).length<=1000000/\∀ H',Same H H'->Q (.str (S (tt s))) H'
theorem Yhs {K:PySem.W.Frag} {vs:List V} {H:Hp} {Q:VK} {E:XK} (h:U3 K 0 vs H Q E):False:=by
 obtain ⟨_,_,_,_,_,h,_⟩:=h;omega
def KJ (K:PySem.W.Frag) (m:Nat):Sp:=fun vs H Q _=>∃ (s:Sh) (v:V),vs=[v]/\SA H s v/\Gd s/\(∀ w,s ≠ .use w)/\dp s<=m/\(tt s).length<=1000000/\∀ p H',Same H H'->H' p=some (.lst (aF (aN s)))->Q (.ref p) H'
theorem ZC {k:Nat}  (R:g.Raw "shown_within" "shown_within" xK ["shape"]) (zm:g.Fn k "parts_of" ["shape"] (za g.K)) (tM:g.Fn k "show_shape" ["shape"] (U3 g.K m)) (aU:g.mg "str"=none):g.Fn (k+1) "shown_within" ["shape"] (KJ g.K m):=by
 refine R.fn xM (fun vs H Q E h=>by obtain ⟨s,v,rfl,hs,hg,hu,hd,hl,q⟩:=h;rfl) fun f_ cdv A outer s H vs Q E hr h=>?_
 obtain ⟨s,v,rfl,hs,hg,hu,hd,hl,q⟩:=h;refine ⟨_,(Yc (YB (i:=1) xM.nd rfl (.inl rfl) (Yr Yx (pv 0) Ye (fun _ _=>rfl)))
   (Yc (Yo (Yk YG (pv 1) Yg (Yl _)) (Yd (Yj (Xb (Ya (XZ aU X1 (Ya (Yr Yx (pv 0) Ye (fun _ _=>rfl)) Yb)) (Ya (XZ aU X1 (Ya (Yr Yx (pv 0) Ye (fun _ _=>rfl)) Yb)) Yb))))) Yi)
   (Yc (Yo (Yk YG (pv 1) Yg (Yl _)) (Yd (Yj (Xb (Ya (Yr Yx (pv 0) Ye (fun _ _=>rfl)) Yb)))) Yi)
   (Yc (Yo (Yk YG (pv 1) Yg (Yl _)) (Yd (Yj (XQ (g:=Wp g.K 2 (Y5 (YD 0) (Y5 (YD 1) Wo))) (src:=[none,none]) (N':=(["mark","part"]:List Str)) (.own (.own .nil)) rfl (Up (Yr Yx (pv 0) Ye (fun _ _=>rfl))) (fun cl C s₀ H₀ fp pn=>(X8 (n:=2) rfl (YW (Yv (i:=0) (show List.Nodup (["mark","part"]:List Str) by decide +kernel) rfl (.inl rfl) (.inr rfl)) (YW (Yv (i:=1) (show List.Nodup (["mark","part"]:List Str) by decide +kernel) rfl (.inl rfl) (.inr rfl)) XX)))) (fun cl C s₀ H₀ fp pn=>Y4) (fun cl C s₀ H₀ fp pn=>(Ym Yn (Ym Yn (pv 0) Yg) (YM tM hr (Ya (pv 1) Yb)))) (by intro x hx;simp at hx)))) Yi)
   (Yc (Gq (i:=2) xM.nd rfl (.inl rfl) (g:=YD 0) (src:=[none]) (N':=(["part"]:List Str)) (.own .nil) rfl (Y9 (YM zm hr (Ya (pv 0) Yb))) (fun cl C s₀ H₀ fp pn=>(Yv (i:=0) (show List.Nodup (["part"]:List Str) by decide +kernel) rfl (.inl rfl) (.inr rfl))) (fun cl C s₀ H₀ fp pn=>Y4) (fun cl C s₀ H₀ fp pn=>(YM tM hr (Ya (pv 0) Yb))) (by intro x hx;simp at hx))
   (Yc (Yo (Yk YG (pv 1) Yg (Yl _)) (Yd (YY (XF PySem.F.plainAttrs_list PySem.F.slot_list_append PySem.F.type_list_append Wg (pv 2) (Ya (XZ aU X1 (Ya (Yr Yx (pv 0) Ye (fun _ _=>rfl)) Yb)) Yb)))) Yi)
   (Yd (Yj (pv 2))))))))),?_⟩
 have hsum:=zF hg hu;obtain ⟨a0,r0,rfl,h0⟩:=hs.mk;refine Xq (fun σ H'=>σ=[some (.ref a0),some (.str (ms (gR s))),none]/\H=H') ?_ (fun N hN=>by walk_at "rd";exact ⟨_,aD.of h0,_,Yz (j:=0) rfl,hN _ _ ⟨rfl,rfl⟩⟩);rintro σ H' ⟨rfl,eH⟩;subst eH
 cases s with
 | use w=>exact (hu w rfl).elim
 | whole i j =>
  obtain ⟨a,ea,ha⟩:=hs
  cases ea
  dsimp only [gR]
  repeat (first | refine YX (i:=1) rfl (by decide +kernel) ?_ | refine Y3 (i:=1) rfl rfl ?_)
  walk_at "rd";walk_at "sd";refine ⟨_,aD.of ha,_,rfl,i,rfl,VV hg.1,_,aD.of ha,_,rfl,j,rfl,VV hg.2,few (by decide),fun p hp=>?_⟩;rw [Uy,Uy];exact q p _ (.ao hp _) Yf
 | text w =>
  obtain ⟨a,ea,ha⟩:=hs
  cases ea
  dsimp only [gR]
  repeat (first | refine YX (i:=1) rfl (by decide +kernel) ?_ | refine Y3 (i:=1) rfl rfl ?_)
  walk_at "rd";walk_at "sd";exact ⟨_,aD.of ha,_,rfl,few (by decide),fun p hp=>q p _ (.ao hp _) Yf⟩
 | pick ks =>
  obtain ⟨a,b,us,ea,ha,hb,hk⟩:=hs
  cases ea
  have zf:ks.list.length<=10:=hg.2.1;have zx:=hk.len;obtain ⟨ps,g1,g2,g3⟩:=KB.cols (K:=g.K) hk;dsimp only [gR]
  repeat (first | refine YX (i:=1) rfl (by decide +kernel) ?_ | refine Y3 (i:=1) rfl rfl ?_)
  walk_at "rd";walk_at "sd";refine Ub (K:=g.K) (b:=b) (xs:=us) ps (aF (aN (.pick ks))) (fun R r=>by walk_at "rd";exact ⟨_,aD.of ha,_,rfl,r⟩) (aD.of hb) g2 g1 (by simp [aF,aN,zx]) (by omega) ?_ ?_
  ·intro j p y H2 hp hy sm R r
   have hj:=(List.getElem?_eq_some_iff.mp hp).1;have hkj:ks.list[j]?=some (ks.list[j]'(by omega)):=List.getElem?_eq_getElem _;generalize ks.list[j]'(by omega)=z at hkj;rw [aF,List.getElem?_map,aN,List.getElem?_map,hkj] at hy
   have hy':=Option.some.inj hy;subst hy';have eZ:=List.mem_of_getElem? hkj;obtain ⟨z1,z2⟩:=g3 j p _ hp hkj;have hpt:z.2∈aO (.pick ks):=List.mem_map.mpr ⟨z,eZ,rfl⟩;have h1:=QM hg hpt;have h2:=WY hpt;have h3:=(XW (hg.2.2.mem eZ).1).1;have e1:=Ys z.1;have e2:=Ys (tt z.2);walk_at "rd";rw [z1,KH];refine ⟨_,rfl,few (by rw [Ys,Ys];simp;omega),z.2,p.2,rfl,z2.keep (.of sm),Vt hg hpt,by omega,by omega,fun H3 s3=>⟨_,rfl,?_,?_⟩⟩
   ·rw [YE,Ys,Ys]
    exact Nat.le_trans (by simp;omega) (show 2000000<=sizeLine by decide)
   ·rw [YE,YE,List.append_assoc]
    exact r H3 s3
  ·intro D H2 hD sm hd
   exact q D H2 sm hd
 | row ks =>
  have hs0:=hs;obtain ⟨a,b,us,ea,ha,hb,hk⟩:=hs
  cases ea
  have tE:ks.list.length<=8:=hg.1;dsimp only [gR]
  repeat (first | refine YX (i:=1) rfl (by decide +kernel) ?_ | refine Y3 (i:=1) rfl rfl ?_)
  walk_at "rd";walk_at "sd";refine Qp (K:=g.K) (fun b xs H1=>Same H H1/\H1 b=some (.lst xs)/\eN H1 (aO (.row ks)) xs) (fun R r=>by walk_at "rd";exact ⟨_,_,rfl,hs0,hg,fun p us H1 s1 _ h1 h2=>r p us H1 ⟨s1,h1,h2⟩⟩) ?_;rintro b xs H1 ⟨s1,h1,h2⟩;have nR:=h2.1;refine ⟨au.of h1,by simp [aO] at nR;omega,aF (aN (.row ks)),by simp [aF,aN,nR,aO],?_,?_⟩
  ·intro i x y H2 hx hy sm R r
   have hi:=(List.getElem?_eq_some_iff.mp hx).1;have hz:(aO (.row ks))[i]?=some ((aO (.row ks))[i]'(by omega)):=List.getElem?_eq_getElem _;generalize (aO (.row ks))[i]'(by omega)=z at hz;have eZ:=List.mem_of_getElem? hz;have e1:=QM hg eZ;have e2:=WY eZ;have hy':V.str (S (tt z))=y:=by
    simp only [aO,List.getElem?_map] at hz;obtain ⟨p,hp,rfl⟩:=Option.map_eq_some_iff.mp hz;rw [aF,List.getElem?_map,aN,List.getElem?_map,hp] at hy
    exact Option.some.inj hy
   subst hy';walk_at "rd";exact ⟨z,x,rfl,(h2.2 i x z hx hz).keep (.of sm),Vt hg eZ,by omega,by omega,fun H3 s3=>r H3 s3⟩
  ·intro D H2 hD sm hd
   exact q D H2 (s1.trans sm) hd
 | one m s =>
  have hs0:=hs;obtain ⟨a,w,ea,ha,hw⟩:=hs
  cases ea
  have e0:aO (.one m s)=[s]:=rfl;have hm:ms m≠ms .whole/\ms m≠ms .text/\ms m≠ms .pick/\ms m≠ms .alike:=by
   rcases hg.1 with rfl | rfl | rfl<;>simp [Wx]
  dsimp only [gR];refine YX (i:=1) rfl hm.1 (YX (i:=1) rfl hm.2.1 (YX (i:=1) rfl hm.2.2.1 ?_));walk_at "rd";simp only [JQ];refine Qp (K:=g.K) (fun b xs H1=>Same H H1/\H1 b=some (.lst xs)/\eN H1 (aO (.one m s)) xs) (fun R r=>by walk_at "rd";exact ⟨_,_,rfl,hs0,hg,fun p us H1 s1 _ h1 h2=>r p us H1 ⟨s1,h1,h2⟩⟩) ?_;rintro b xs H1 ⟨s1,h1,h2⟩;have nR:xs.length=1:=h2.1;refine ⟨au.of h1,by omega,aF (aN (.one m s)),by simp [aF,aN,nR],?_,?_⟩
  ·intro i x y H2 hx hy sm R r
   have hi:=(List.getElem?_eq_some_iff.mp hx).1;obtain rfl:i=0:=by omega
   have hz:(aO (.one m s))[0]?=some s:=rfl;have eZ:=List.mem_of_getElem? hz;have e1:=QM hg eZ;have e2:=WY eZ;have hy':V.str (S (tt s))=y:=Option.some.inj hy;subst hy';walk_at "rd";exact ⟨s,x,rfl,(h2.2 0 x s hx hz).keep (.of sm),Vt hg eZ,by omega,by omega,fun H3 s3=>r H3 s3⟩
  ·intro D H2 hD sm hd
   exact Xc hm.2.2.2 (q D H2 (s1.trans sm) hd)
 | alike s t =>
  have hs0:=hs;obtain ⟨a,w,ea,ha,hw⟩:=hs
  cases ea
  have ht:((t:Nat):Int).natAbs<10^60:=by rw [Int.natAbs_natCast];exact Nat.lt_of_le_of_lt hg.2.1 (by decide)
  dsimp only [gR]
  repeat (first | refine YX (i:=1) rfl (by decide +kernel) ?_ | refine Y3 (i:=1) rfl rfl ?_)
  walk_at "rd";walk_at "sd";refine Qp (K:=g.K) (fun b xs H1=>Same H H1/\H1 b=some (.lst xs)/\eN H1 (aO (.alike s t)) xs) (fun R r=>by walk_at "rd";exact ⟨_,_,rfl,hs0,hg,fun p us H1 s1 _ h1 h2=>r p us H1 ⟨s1,h1,h2⟩⟩) ?_;rintro b xs H1 ⟨s1,h1,h2⟩;have nR:xs.length=1:=h2.1;refine ⟨au.of h1,by omega,[.str (S (tt s))],by simp [nR],?_,?_⟩
  ·intro i x y H2 hx hy sm R r
   have hi:=(List.getElem?_eq_some_iff.mp hx).1;obtain rfl:i=0:=by omega
   have hz:(aO (.alike s t))[0]?=some s:=rfl;have eZ:=List.mem_of_getElem? hz;have e1:=QM hg eZ;have e2:=WY eZ;have hy':V.str (S (tt s))=y:=Option.some.inj hy;subst hy';walk_at "rd";exact ⟨s,x,rfl,(h2.2 0 x s hx hz).keep (.of sm),Vt hg eZ,by omega,by omega,fun H3 s3=>r H3 s3⟩
  ·intro D H2 hD sm hd
   have s2:=s1.trans sm;refine ⟨.inl ⟨rfl,_,au.of hd⟩,_,aD.of (s2 _ _ ha),_,rfl,_,rfl,VV ht,D,rfl,_,hd,(show 1<sizeLine by decide),?_⟩;refine q D _ (.cu (s1.free hD) s2 _) (Yf.trans ?_);rw [Uy];rfl
theorem ZL {k:Nat}  (R:g.Raw "show_shape" "show_shape" xO ["shape"]) (Z4W:g.Fn k "shown_within" ["shape"] (KJ g.K m)):g.Fn (k+1) "show_shape" ["shape"] (U3 g.K (m+1)):=by
 refine R.fn YaY (fun vs H Q E h=>by obtain ⟨s,v,rfl,hs,hg,hd,hl,q⟩:=h;rfl) fun f_ cdv A outer s H vs Q E hr h=>?_
 obtain ⟨s,v,rfl,hs,hg,hd,hl,q⟩:=h;refine ⟨_,(Yc (Yo (Yk YG (Yr Yx (pv 0) Ye (fun _ _=>rfl)) Yg (Yl _)) (Yd (Yj (Yr Yx (pv 0) Ye (fun _ _=>rfl)))) Yi)
   (Yd (Yj (Ym Yn (Ym Yn (Ym Yn (Yr Yx (pv 0) Ye (fun _ _=>rfl)) Yg) (XF PySem.F.plainAttrs_str PySem.F.slot_str_join PySem.F.type_str_join VS Yg (Ya (YM Z4W hr (Ya (pv 0) Yb)) Yb))) Yg)))),?_⟩
 have big:2000000<=sizeLine:=by decide
 by_cases hu:∃ w,s = .use w
 ·obtain ⟨w,rfl⟩:=hu
  obtain ⟨a,rfl,ha⟩:=hs;have hq:=q H (.refl _);rw [Vu] at hq
  walk_at "rd";exact ⟨_,aD.of ha,_,rfl,rfl,Xu rfl ⟨_,aD.of ha,_,rfl,hq⟩⟩
 ·have hu':∀ w,s ≠ .use w:=fun w e=>hu ⟨w,e⟩
  have hsum:=zF hg hu';have he:=WB hg hu';have hml:=(Wa (kd s)).2;have hkd:∃ (a:Addr) (r:List V),v = .ref a/\H a=some (.tup (.str (ms (kd s))::r))/\kd s ≠ .use:=by
   cases s with
   | use w=>exact (hu' w rfl).elim
   | whole i j=>obtain ⟨a,e,h⟩:=hs;exact ⟨a,_,e,h,by simp [kd]⟩
   | text w=>obtain ⟨a,e,h⟩:=hs;exact ⟨a,_,e,h,by simp [kd]⟩
   | row ks=>obtain ⟨a,b,us,e,h,_⟩:=hs;exact ⟨a,_,e,h,by simp [kd]⟩
   | pick ks=>obtain ⟨a,b,us,e,h,_⟩:=hs;exact ⟨a,_,e,h,by simp [kd]⟩
   | one m s=>obtain ⟨a,w,e,h,_⟩:=hs;exact ⟨a,_,e,h,by rcases hg.1 with rfl | rfl | rfl<;>simp [kd]⟩
   | alike s t=>obtain ⟨a,w,e,h,_⟩:=hs;exact ⟨a,_,e,h,by simp [kd]⟩
  obtain ⟨a,r,rfl,ha,hku⟩:=hkd;have hjl:(mc (kd s)).length+1+(Yp [44] (aN s)).length+1=(tt s).length:=by
   rw [he];simp only [List.length_append,List.length_cons,List.length_nil];omega
  walk_at "rd";refine ⟨_,aD.of ha,_,Yz (j:=0) rfl,rfl,Xc (fun z=>hku ?_) ⟨_,aD.of ha,_,Yz (j:=0) rfl,_,rfl,?_,rfl,s,_,rfl,hs,hg,hu',by omega,hl,fun p H1 s1 hp=>?_⟩⟩
  ·have:=V.str.inj z
   rwa [yU,Wx] at this
  ·rw [XS,UG,Ys,Ys];simp only [List.length_cons,List.length_nil];omega
  ·refine ⟨_,p,(aN s).map S,rfl,rfl,au.of (hp.trans ?_),?_,_,rfl,?_,?_,?_⟩
   ·simp [aF]
   ·rw [lU,Ys,T7,List.length_map]
    simp only [List.length_cons,List.length_nil];omega
   ·rw [lU,X9,XS,UG,YE,Ys,Ys];simp only [List.length_append,List.length_cons,List.length_nil];omega
   ·rw [lU,X9,XS,UG,lR,YE,YE,Ys,Ys];simp only [List.length_append,List.length_cons,List.length_nil];omega
   ·rw [lU,X9,XS,UG,lR,YE,YE,YE]
    have hq:=q H1 s1;rw [he] at hq
    simpa using hq
def Xv:Sh->Option (List Nat)
 | .use w=>some w
 | _=>none
def XT (acc:List (List Nat)) (x:List Nat):List (List Nat):=if x∈acc then acc else acc++[x]
def jd (s:Sh):List (List Nat):=((wi s).filterMap Xv).foldl XT []
theorem zG (w:List Nat):∀ xs:List (List Nat),inV (.str (S w)) (aF xs)=decide (w∈xs)
 | []=>rfl
 | a::xs=>by
  have e:gq (.str (S a)) (.str (S w))=decide (a=w):=by
   simp only [gq];by_cases c:a=w
   ·subst c;simp
   ·have:S a≠S w:=fun z=>c (Y8 z)
    simp [c,this]
  have ih:=zG w xs;rw [inV,aF,List.map_cons,List.any_cons,e];have ih':((xs.map fun x=>V.str (S x)).any fun y=>gq y (.str (S w)))=decide (w∈xs):=ih;rw [ih'];by_cases c:a=w
  ·subst c;simp
  ·have c':¬ w=a:=fun z=>c z.symm
   simp [c,c']
theorem KN:∀ (l acc:List (List Nat)),(l.foldl XT acc).length<=acc.length+l.length
 | [],acc=>by simp
 | a::l,acc=>by
  rw [List.foldl_cons];have h1:=KN l (XT acc a);have h2:(XT acc a).length<=acc.length+1:=by
   unfold XT
   split
   ·omega
   ·simp
  rw [List.length_cons];omega
theorem SA.use {H:Hp} {s:Sh} {v:V} (h:SA H s v) (hg:Gd s):∃ (a:Addr) (m:Mk) (r:List V),v = .ref a/\H a=some (.tup (.str (ms m)::r))/\((m ≠ .use/\Xv s=none)\/∃ w,m = .use/\s = .use w/\r=[.str (S w)]):=by
 cases s with
 | use w=>obtain ⟨a,e,h⟩:=h;exact ⟨a,_,_,e,h,.inr ⟨w,rfl,rfl,rfl⟩⟩
 | whole i j=>obtain ⟨a,e,h⟩:=h;exact ⟨a,_,_,e,h,.inl ⟨by decide,rfl⟩⟩
 | text w=>obtain ⟨a,e,h⟩:=h;exact ⟨a,_,_,e,h,.inl ⟨by decide,rfl⟩⟩
 | row ks=>obtain ⟨a,b,us,e,h,_⟩:=h;exact ⟨a,_,_,e,h,.inl ⟨by decide,rfl⟩⟩
 | pick ks=>obtain ⟨a,b,us,e,h,_⟩:=h;exact ⟨a,_,_,e,h,.inl ⟨by decide,rfl⟩⟩
 | one m s=>obtain ⟨a,w,e,h,_⟩:=h;exact ⟨a,m,_,e,h,.inl ⟨by rcases hg.1 with rfl | rfl | rfl<;>decide,rfl⟩⟩
 | alike s t=>obtain ⟨a,w,e,h,_⟩:=h;exact ⟨a,_,_,e,h,.inl ⟨by decide,rfl⟩⟩
def KQ (K:PySem.W.Frag):Sp:=fun vs H Q _=>∃ (s:Sh) (v:V),vs=[v]/\SA H s v/\Gd s/\dp s<=8/\(wi s).length<=12000000/\∀ p H',Same H H'->H p=none->H' p=some (.lst (aF (jd s)))->Q (.ref p) H'
theorem Ya0 {k:Nat}  (R:g.Raw "names_used" "names_used" xP ["shape"]) (ZQ:g.Fn k "shapes_within" ["shape"] (ZV g.K 9)):g.Fn (k+1) "names_used" ["shape"] (KQ g.K):=by
 refine R.fn xQ (fun vs H Q E h=>by obtain ⟨s,v,rfl,hs,hg,hd,hl,q⟩:=h;rfl) fun f_ cdv A outer s H vs Q E hr h=>?_
 obtain ⟨s,v,rfl,hs,hg,hd,hl,q⟩:=h;refine ⟨_,(Yc (YB (i:=1) xQ.nd rfl (.inl rfl) (Xb Yb))
   (Yc (Xs PassesOwn.never rfl (Y9 (YM ZQ hr (Ya (pv 0) Yb))) (Yv (i:=2) xQ.nd rfl (.inl rfl)) (Yd (Yo (Um (Yk YG (Yr Yx (pv 2) Ye (fun _ _=>rfl)) Yg (Yl _)) (VO (Yk Sv (Yr Yx (pv 2) Ye (fun _ _=>rfl)) (pv 1) rfl))).pt (Yd (YY (XF PySem.F.plainAttrs_list PySem.F.slot_list_append PySem.F.type_list_append Wg (pv 1) (Ya (Yr Yx (pv 2) Ye (fun _ _=>rfl)) Yb)))) Yi)))
   (Yd (Yj (pv 1))))),?_⟩
 have e1:∀ m m':Mk,m≠m'->¬ V.str (ms m)=V.str (ms m'):=fun m m' h z=>h (by have:=V.str.inj z;rwa [Wx] at this)
 walk_at "rd";refine ⟨few (by decide),fun p hp=>?_⟩;have u:=Same.ao hp (.lst []);refine UD (K:=g.K) (fun c xs H1=>Same H H1/\H1 p=some (.lst [])/\H1 c=some (.lst xs)/\c≠p/\eN H1 (wi s) xs) (fun R r=>?_) ?_
 ·walk_at "rd"
  exact ⟨s,v,rfl,hs.keep (.of u),hg,by omega,hl,fun c us H1 s1 hc h1 h2=>r c us H1 ⟨u.trans s1,s1 _ _ Yf,h1,(YF Yf hc).symm,h2⟩⟩
 ·rintro c xs H1 ⟨s1,h1,h2,zp,h3⟩
  refine ⟨fun i σ' H'=>∃ o,σ'=[some v,some (.ref p),o]/\Same H H'/\H' c=some (.lst xs)/\eN H' (wi s) xs/\H' p=some (.lst (aF ((((wi s).take i).filterMap Xv).foldl XT []))),⟨none,rfl,s1,h2,h3,h1⟩,fun i σ' H' _ ⟨o,_,_,h,_⟩=>au.of h,?_,?_⟩
  ·rintro i x σ' H' hx ⟨o,rfl,s2,h4,h5,h6⟩
   have hi:=(List.getElem?_eq_some_iff.mp hx).1;have hi':i<(wi s).length:=by rw [<- h5.1];exact hi
   have hz:(wi s)[i]?=some (wi s)[i]:=List.getElem?_eq_getElem hi';have htk:(wi s).take (i+1)=(wi s).take i++[(wi s)[i]]:=List.take_succ_eq_append_getElem hi';generalize (wi s)[i]=z at hz htk;have eZ:=List.mem_of_getElem? hz;have lQ:=zj (n:=9) (by omega) hg eZ;obtain ⟨a,m,r,rfl,ha,hm⟩:=(h5.2 i x z hx hz).use lQ;generalize hA:(((wi s).take i).filterMap Xv).foldl XT []=acc at h6;have hnx:(((wi s).take (i+1)).filterMap Xv).foldl XT []=match Xv z with
    | some w=>XT acc w
    | none=>acc:=by
    rw [htk,List.filterMap_append,List.foldl_append,hA]
    cases e:Xv z<;>simp [e]
   have hal:acc.length<=12000000:=by
    have h7:=KN (((wi s).take i).filterMap Xv) [];have h8:=List.length_filterMap_le Xv ((wi s).take i);have h9:((wi s).take i).length<=(wi s).length:=by rw [List.length_take];omega
    rw [hA] at h7
    simp only [List.length_nil] at h7;omega
   walk_at "rd";rcases hm with ⟨n1,n2⟩ | ⟨w,rfl,rfl,rfl⟩
   ·rw [hnx,n2]
    exact ⟨_,aD.of ha,_,Yz (j:=0) rfl,rfl,Xc (e1 _ _ n1) ⟨s2,h4,h5,h6⟩⟩
   ·have Pb:(((wi s).take (i+1)).filterMap Xv).foldl XT []=XT acc w:=hnx
    rw [Pb];refine ⟨_,aD.of ha,_,rfl,rfl,Xu rfl ⟨_,aD.of ha,_,rfl,?_⟩⟩;have hfl:(aF acc).all Wr=true:=by
     rw [List.all_eq_true];intro y hy;obtain ⟨l,_,rfl⟩:=List.mem_map.mp hy;rfl
    refine ⟨_,.inl (au.of h6),rfl,hfl,?_⟩;rw [zG];refine Yw (fun c1=>⟨.inl ⟨rfl,_,au.of h6⟩,_,aD.of ha,_,rfl,_,h6,?_,?_⟩) fun c1=>?_
    ·rw [aF,List.length_map]
     exact Nat.lt_of_le_of_lt hal (by decide)
    ·have hw:w∉acc:=of_decide_eq_false c1
     have tk:Tk H' (upd H' p (.lst (aF acc++[.str (S w)]))):=fun a ys ha=>by rw [Yq (W6 ha h6 (by intro z;cases z))];exact ha
     refine ⟨.cu hp s2 _,by rw [Yq zp];exact h4,h5.keep tk,Yf.trans ?_⟩;rw [XT,if_neg hw];simp [aF]
    ·have hw:w∈acc:=by
      refine Classical.byContradiction fun z=>c1 (decide_eq_false z)
     rw [XT,if_pos hw];exact ⟨s2,h4,h5,h6⟩
  ·rintro σ' H' ⟨o,rfl,s2,h4,h5,h6⟩
   rw [h5.1,List.take_length] at h6
   walk_at "rd";exact q p H' s2 hp h6
def WC (H:Hp) (B:Addr) (bk:List (List Nat×Sh)):Prop:=∃ us:List V,H B=some (.lst us)/\us.length=bk.length/\∀ (i:Nat) v p,us[i]?=some v->bk[i]?=some p->∃ b w,v = .ref b/\H b=some (.tup [.str (S p.1),w])/\SA H p.2 w
theorem WC.keep {H H':Hp} {B:Addr} {bk:List (List Nat×Sh)} (h:WC H B bk) (s:Same H H'):WC H' B bk:=by
 obtain ⟨us,h1,h2,h3⟩:=h;refine ⟨us,s _ _ h1,h2,fun i v p a b=>?_⟩;obtain ⟨c,w,e,h4,h5⟩:=h3 i v p a b;exact ⟨c,w,e,s _ _ h4,h5.keep (.of s)⟩
def Y6:List (List Nat×Sh)->List Nat->Option Sh
 | [],_=>none
 | (l,s)::r,x=>if l=x then some s else Y6 r x
def zH (CN:Addr):Sp:=fun vs H Q E=>∃ (B:Addr) (bk:List (List Nat×Sh)) (x:List Nat),vs=[.ref B,.str (S x)]/\WC H B bk/\bk.length<=1000/\(∀ s v,Y6 bk x=some s->SA H s v->Q v H)/\(Y6 bk x=none->E (.ref CN) none H)
theorem YcN {Z6:Addr} (R:g.Raw "shape_of" "shape_of" xR ["book","name"]) (fL:g.mg "NoName"=some (.ref Z6)) (iB:PySem.W.excIn g.K Z6 YU "ValueError.__new__"=true):g.aK (1) "shape_of" ["book","name"] (zH Z6):=by
 refine R.fnX HX (fun vs H Q E h=>by obtain ⟨B,bk,x,rfl,hB,hl,q,qe⟩:=h;rfl) fun f_ cdv A outer s H vs Q E hr h=>?_
 obtain ⟨B,bk,x,rfl,hB,hl,q,qe⟩:=h;refine ⟨_,(Yc (PS.cO (Xs PassesOwn.never rfl (Y9 (pv 0)) (Yv (i:=2) HX.nd rfl (.inl rfl)) (Yd (Yo (Yk YG (Yr Yx (pv 2) Ye (fun _ _=>rfl)) (pv 1) (Yl _)) (Yd (Yj (Yr Yx (pv 2) Ye (fun _ _=>rfl)))) Yi))))
   (Yd (YK ⟨fL,iB⟩ Y0 (Ya Yg Yb)))),?_⟩
 obtain ⟨us,h1,h2,h3⟩:=hB;refine Xq (fun σ H'=>H'=H/\Y6 bk x=none/\∃ o,σ=[some (.ref B),some (.str (S x)),o]) ?_ ?_
 ·rintro σ H' ⟨rfl,hn,o,rfl⟩
  walk_at "rd";exact ⟨few (by decide),qe hn⟩
 intro N hN;refine Wj (K:=g.K) (a:=B) (xs:=us) (fun i σ H'=>H'=H/\Y6 bk x=Y6 (bk.drop i) x/\∃ o,σ=[some (.ref B),some (.str (S x)),o]) (fun R r=>by walk_at "rd";exact r) ⟨rfl,rfl,none,rfl⟩ ?_ ?_ ?_
 ·rintro i σ H' _ ⟨rfl,_⟩
  exact au.of h1
 ·rintro i v σ H' hv ⟨rfl,hd,o,rfl⟩
  have hi:=(List.getElem?_eq_some_iff.mp hv).1;have hp:bk[i]?=some (bk[i]'(by omega)):=List.getElem?_eq_getElem _;obtain ⟨b,w,rfl,h4,h5⟩:=h3 i v _ hv hp;have e1:bk.drop i=bk[i]'(by omega)::bk.drop (i+1):=List.drop_eq_getElem_cons _;generalize bk[i]'(by omega)=pr at hp h4 h5 e1;obtain ⟨l,s⟩:=pr;rw [e1,Y6] at hd
  walk_at "rd";refine ⟨_,.inl (.inl h4),_,Yz (j:=0) rfl,Wl _ _,Yw (fun c=>?_) fun c=>?_⟩
  ·have hlx:l=x:=Y8 (V.str.inj c)
   rw [if_pos hlx] at hd
   exact ⟨_,.inl (.inl h4),_,Yz (j:=1) rfl,q s w hd h5⟩
  ·have hlx:l≠x:=fun z=>c (by rw [z])
   rw [if_neg hlx] at hd
   exact hd
 ·rintro σ H' ⟨rfl,hd,o,rfl⟩
  rw [List.drop_of_length_le (by omega)] at hd
  exact hN _ _ ⟨rfl,hd,o,rfl⟩
theorem UH:Str.ofString "="=S [61]:=by decide +kernel
def aW (l:List Nat):List Nat:=(l.dropWhile (· != 61)).drop 1
theorem KR {l:List Nat} (h:61∉l):aW l=[]:=by
 unfold aW;have:l.dropWhile (· != 61)=[]:=by
  induction l with
  | nil=>rfl
  | cons c l ih =>
   rw [List.dropWhile_cons_of_pos (by simpa using fun z:c=61=>h (z ▸ .head _))];exact ih fun z=>h (.tail _ z)
 rw [this];rfl
theorem WZ {a b:List Nat} (h:61∉a):aW (a++61::b)=b:=by
 unfold aW;have:(a++61::b).dropWhile (· != 61)=61::b:=by
  induction a with
  | nil=>rfl
  | cons c a ih =>
   rw [List.cons_append,List.dropWhile_cons_of_pos (by simpa using fun z:c=61=>h (z ▸ .head _))];exact ih fun z=>h (.tail _ z)
 rw [this];rfl
theorem zJ (l:List Nat):(aW l).length<=l.length:=by
 unfold aW;have:=(List.dropWhile_sublist (l:=l) (· != 61)).length_le;rw [List.length_drop];omega
def XG (r:List Nat):Prop:=(aW r).length<=2000/\Rd.bG 0 (aW r)
def KY (CC:Addr):Sp:=fun vs H Q E=>∃ (B:Addr) (rows:List (List Nat)),vs=[.ref B]/\H B=some (.lst (aF rows))/\rows.length<=100000/\(∀ r∈rows,r.length<=100000)/\(rows.length<=8->(∀ r∈rows,XG r)->∀ H',Same H H'->Q .non H')/\(¬ (rows.length<=8/\∀ r∈rows,XG r)->∀ H',Same H H'->E (.ref CC) none H')
theorem Z2s {k:Nat} {Z3:Addr} (R:g.Raw "refuse_crowded_rows" "refuse_crowded_rows" xT ["rows"]) (yQ:g.aK k "refuse_crowded" ["text"] (sW Z3)) (aA:g.mg "len"=none) (p8:g.fY "MOST_ROWS" (.int 8)) (bH:g.mg "Crowded"=some (.ref Z3)) (dH:PySem.W.excIn g.K Z3 YU "ValueError.__new__"=true):g.aK (k+1) "refuse_crowded_rows" ["rows"] (KY Z3):=by
 refine R.fnX HY (fun vs H Q E h=>by obtain ⟨B,rows,rfl,hB,hl,hr9,q,qe⟩:=h;rfl) fun f_ cdv A outer s H vs Q E hr h=>?_
 obtain ⟨B,rows,rfl,hB,hl,hr9,q,qe⟩:=h;refine ⟨_,(Yc (Yo (Yk W8 (YJ aA YN (Ya (pv 0) Yb)) (Vc p8) (Yl _)) (Yd (YK ⟨bH,dH⟩ Y0 (Ya Yg Yb))) Yi)
   (Yd (Xs PassesOwn.leaving rfl (Y9 (pv 0)) (Yv (i:=1) HY.nd rfl (.inl rfl)) (Yd (YY (YH yQ hr YO (Ya (Yr Yx (XF PySem.F.plainAttrs_str PySem.F.slot_str_partition PySem.F.type_str_partition UA (pv 1) (Ya Yg Yb)) Ye (fun _ _=>rfl)) Yb))))))),?_⟩
 refine Xq (fun σ H'=>H'=H/\rows.length<=8/\σ=[some (.ref B),none]) ?_ ?_
 rotate_left
 ·intro N hN
  walk_at "rd";refine ⟨_,.inl (au.of hB),?_⟩;rw [show ((aF rows).length:Int)=(rows.length:Int) by rw [aF,List.length_map]];exact Yw (fun c=>⟨few (by decide),qe (fun z=>by have:=z.1;omega) _ (.refl _)⟩) fun c=>hN _ _ ⟨rfl,by omega,rfl⟩
 rintro σ H' ⟨rfl,h8,rfl⟩;refine Wj (K:=g.K) (a:=B) (xs:=aF rows) (fun i σ H1=>Same H' H1/\(∀ (j:Nat) r,j<i->rows[j]?=some r->XG r)/\∃ o,σ=[some (.ref B),o]) (fun R r=>by walk_at "rd";exact r) ⟨.refl _,fun j r h=>by omega,none,rfl⟩ ?_ ?_ ?_
 ·rintro i σ H1 _ ⟨s,_⟩
  exact au.of (s _ _ hB)
 ·rintro i v σ H1 hv ⟨s,hj,o,rfl⟩
  rw [aF,List.getElem?_map] at hv
  obtain ⟨r,hr,rfl⟩:=Option.map_eq_some_iff.mp hv;have hrm:=List.mem_of_getElem? hr;have hrl:=hr9 r hrm;have al:=zJ r;have fin:∀ (p:Addr) (x y:V),H1 p=none->sW Z3 [.str (S (aW r))] (upd H1 p (.tup [x,y,.str (S (aW r))])) (fun _ H2=>Same H' H2/\∀ (j:Nat) r,j<i+1->rows[j]?=some r->XG r) E:=fun p x y hp=>by
   have s2:=s.trans (Same.ao hp (.tup [x,y,.str (S (aW r))]));refine ⟨aW r,rfl,by omega,fun a b=>⟨s2,fun j r' hj' hr'=>?_⟩,fun z=>qe (fun y=>z (y.2 r hrm)) _ s2⟩;by_cases c:j<i
   ·exact hj j r' c hr'
   ·have:j=i:=by omega
    subst this;rw [hr] at hr'
    cases hr'
    exact ⟨a,b⟩
  walk_at "rd";refine ⟨rfl,r,61,rfl,by rw [UH],hrl,fun p hp=>⟨fun hn=>⟨p,rfl,_,.inl (.inl Yf),_,Yz (j:=2) rfl,?_⟩,fun a b ha e=>⟨p,rfl,_,.inl (.inl Yf),_,Yz (j:=2) rfl,?_⟩⟩⟩
  ·have:=fin p (.str (S r)) (.str (S [])) hp
   rw [KR hn] at this
   exact this
  ·have e1:aW r=b:=by rw [e];exact WZ ha
   have:=fin p (.str (S a)) (.str (S [61])) hp;rw [e1] at this
   exact this
 ·rintro σ H1 ⟨s,hj,o,rfl⟩
  refine q h8 (fun r hr=>?_) H1 s;obtain ⟨j,hj'⟩:=List.mem_iff_getElem?.mp hr;exact hj j r (by rw [aF,List.length_map];exact (List.getElem?_eq_some_iff.mp hj').1) hj'
def YQ (l:List Nat):List Nat:=l.takeWhile (· != 61)
theorem U4 {a b:List Nat} (h:61∉a):YQ (a++61::b)=a:=by
 unfold YQ
 induction a with
 | nil=>rfl
 | cons c a ih =>
  rw [List.cons_append,List.takeWhile_cons_of_pos (by simpa using fun z:c=61=>h (z ▸ .head _)),ih fun z=>h (.tail _ z)]
def eU (r:List Nat):Option (List Nat×Sh):=if 61∈r/\Rd.aJ (YQ r)=true then (WQ (aW r)).map fun s=>(YQ r,s) else none
def Vv (H:Hp) (p:List Nat×Sh) (v:V):Prop:=∃ b w,v = .ref b/\H b=some (.tup [.str (S p.1),w])/\SA H p.2 w
theorem Vv.keep {H H':Hp} {p:List Nat×Sh} {v:V} (h:Vv H p v) (s:Same H H'):Vv H' p v:=by
 obtain ⟨b,w,e,h1,h2⟩:=h;exact ⟨b,w,e,s _ _ h1,h2.keep (.of s)⟩
def KZ (K:PySem.W.Frag) (CN:Addr):Sp:=fun vs H Q E=>∃ r:List Nat,vs=[.str (S r)]/\r.length<=100000/\XG r/\(∀ p v H',eU r=some p->Same H H'->Vv H' p v->Q v H')/\(eU r=none->∀ H',Same H H'->E (.ref CN) none H')
theorem Z4B {k:Nat} {Z0 Z3:Addr} (R:g.Raw "pair_drafted" "pair_drafted" xU ["row"]) (pR:g.Fn k "is_label" ["text"] (Rd.jq)) (lV:g.aK k "read_draft" ["text"] (Ke g.K Z0 Z3)) (aj:g.mg "NoNote"=some (.ref Z0)) (ak:PySem.W.excIn g.K Z0 YU "ValueError.__new__"=true):g.aK (k+1) "pair_drafted" ["row"] (KZ g.K Z0):=by
 refine R.fnX Ia (fun vs H Q E h=>by obtain ⟨r,rfl,hl,hk,q,qe⟩:=h;rfl) fun f_ cdv A outer s H vs Q E hr h=>?_
 obtain ⟨r,rfl,hl,hk,q,qe⟩:=h;refine ⟨_,(Yc (PS.cO (YB (i:=1) Ia.nd rfl (.inl rfl) (XF PySem.F.plainAttrs_str PySem.F.slot_str_partition PySem.F.type_str_partition UA (pv 0) (Ya Yg Yb))))
   (Yc (Yo (Yk YG (Yr Yx (pv 1) Ye (fun _ _=>rfl)) Yg (Yl _)) (Yd (YK ⟨aj,ak⟩ Y0 (Ya Yg Yb))) Yi)
   (Yc (Yo (Xr (Xd (YM pR hr (Ya (Yr Yx (pv 1) Ye (fun _ _=>rfl)) Yb)))) (Yd (YK ⟨aj,ak⟩ Y0 (Ya Yg Yb))) Yi)
   (Yd (Yj (XJ (Ya (Yr Yx (pv 1) Ye (fun _ _=>rfl)) (Ya (YH lV hr YO (Ya (Yr Yx (pv 1) Ye (fun _ _=>rfl)) Yb)) Yb)))))))),?_⟩
 have al:=zJ r;refine Xq (fun σ H'=>Same H H'/\∃ (p:Addr) (x y z:List Nat),σ=[some (.str (S r)),some (.ref p)]/\H' p=some (.tup [.str (S x),.str (S y),.str (S z)])/\((61∉r/\y=[])\/(61∈r/\x=YQ r/\y=[61]/\z=aW r))) ?_ ?_
 rotate_left
 ·intro N hN
  walk_at "rd";refine ⟨rfl,r,61,rfl,by rw [UH],hl,fun p hp=>⟨fun hn=>hN _ _ ⟨Same.ao hp _,p,_,_,_,rfl,Yf,.inl ⟨hn,rfl⟩⟩,fun a b ha e=>hN _ _ ⟨Same.ao hp _,p,_,_,_,rfl,Yf,.inr ⟨by rw [e];simp,?_,rfl,?_⟩⟩⟩⟩
  ·rw [e,U4 ha]
  ·rw [e,WZ ha]
 rintro σ H1 ⟨s1,p,x,y,z,rfl,hp,hc⟩;have e0:Str.ofString ""=S []:=by decide +kernel
 rcases hc with ⟨hn,rfl⟩ | ⟨h61,rfl,rfl,rfl⟩
 ·have en:eU r=none:=by rw [eU,if_neg fun z=>hn z.1]
  walk_at "rd";rw [e0];exact ⟨_,.inl (.inl hp),_,Yz (j:=1) rfl,Wl _ _,Xu rfl ⟨few (by decide),qe en H1 s1⟩⟩
 ·have fl:(YQ r).length<=r.length:=(List.takeWhile_sublist (l:=r) (· != 61)).length_le
  walk_at "rd";rw [e0];refine ⟨_,.inl (.inl hp),_,Yz (j:=1) rfl,Wl _ _,Xc (fun c=>by have:=Y8 (V.str.inj c);cases this) ⟨_,.inl (.inl hp),_,Yz (j:=0) rfl,YQ r,rfl,by omega,fun H2 s2=>⟨_,rfl,Yw (fun c=>?_) fun c=>?_⟩⟩⟩
  ·refine ⟨few (by decide),qe ?_ H2 (s1.trans s2)⟩
   rw [eU,if_neg fun z=>?_];have:Rd.aJ (YQ r)=false:=c;rw [z.2] at this
   cases this
  ·have jE:Rd.aJ (YQ r)=true:=by
    have:Rd.aJ (YQ r)≠false:=c;simpa using this
   have ep:eU r=(WQ (aW r)).map fun s=>(YQ r,s):=by rw [eU,if_pos ⟨h61,jE⟩]
   have hp2:=s2 _ _ hp;refine ⟨_,.inl (.inl hp2),_,Yz (j:=0) rfl,_,.inl (.inl hp2),_,Yz (j:=2) rfl,_,rfl,.inr ⟨aW r,rfl,by omega,fun z=>(z hk).elim,fun _ _ e H3 s3=>qe (by rw [ep,e];rfl) H3 ((s1.trans s2).trans s3),fun s v H3 _ _ e sa s3=>⟨few (by decide),fun p4 h4=>?_⟩⟩⟩;have u4:=Same.ao h4 (.tup [V.str (S (YQ r)),v]);exact q (YQ r,s) _ _ (by rw [ep,e];rfl) (((s1.trans s2).trans s3).trans u4) ⟨p4,v,rfl,Yf,sa.keep (.of u4)⟩
section
variable {src:List (Option Nat)} {te:TE} {σ:St} {H:Hp} {Q:VK}
theorem Ud {K:PySem.W.Frag} {tl:TE} {b:Addr} {xs:List V} (ps:List (V×V)) (ys:List V) (ha:∀ R:V->Hp->Prop,R (.ref b) H->tl σ H R) (hS:au K H b xs) (hp:∀ (i:Nat) x p,xs[i]?=some x->ps[i]?=some p->∃ T,x = .ref T/\aD K H T [p.1,p.2]) (hl:ps.length=xs.length) (hl2:ys.length=xs.length) (hlen:xs.length<=100000)
  (step:∀ (i:Nat) p y H',ps[i]?=some p->ys[i]?=some y->Same H H'->∀ R:VK,(∀ aL,Same H' aL->R y aL)->te (some p.1::some p.2::YV src σ) H' R)
  (fin:∀ D H',H D=none->Same H H'->H' D=some (.lst ys)->Q (.ref D) H'):iT (none::none::src) (V0 K tl) (Wp K 2 (Y5 (YD 0) (Y5 (YD 1) Wo))) WJ te σ H Q:=by
 refine ha _ ⟨b,rfl,⟨xs,hS⟩,fun D hD=>?_⟩;have h6:100000<sizeLine:=by decide
 refine UW (Va.imp fun H' (e:Same H H')=>e.seq hS) (fun i zs σ' H'=>zs=ys.take i/\(∃ o o',σ'=o::o'::YV src σ)/\Same H H'/\H' D=some (.lst zs)) ⟨by simp,⟨none,none,rfl⟩,.ao hD _,Yf⟩ (fun i zs σ' H' p=>⟨p.2.2.1,p.2.2.2⟩) (Qg K 0 1) ?_ ?_
 ·rintro i zs σ' H' x hx ⟨rfl,⟨o,o',rfl⟩,sm,hd⟩
  have hi:=(List.getElem?_eq_some_iff.mp hx).1;have hy:ys[i]?=some (ys[i]'(by omega)):=List.getElem?_eq_getElem _;have hpi:ps[i]?=some (ps[i]'(by omega)):=List.getElem?_eq_getElem _;obtain ⟨T,rfl,hT⟩:=hp i x _ hx hpi;refine ⟨T,_,rfl,sm.tup hT,rfl,_,_,rfl,_,_,rfl,rfl,?_⟩;refine step i _ _ H' hpi hy sm _ fun aL s2=>⟨s2 _ _ hd,?_,(Wk hy).symm,⟨_,_,rfl⟩,.cu hD (sm.trans s2) _,Yf⟩
  rw [List.length_take];omega
 ·rintro zs σ' H' ⟨rfl,_,sm,hd⟩
  rw [<- hl2,List.take_length] at hd
  exact fin D H' hD sm hd
end
theorem U5 {K:PySem.W.Frag} {H:Hp}:∀ {us:List V} {bk:List (List Nat×Sh)},us.length=bk.length->(∀ (i:Nat) v p,us[i]?=some v->bk[i]?=some p->∃ b w,v = .ref b/\H b=some (.tup [.str (S p.1),w])/\SA H p.2 w)->∃ ps:List (V×V),ps.length=us.length/\(∀ (i:Nat) x p,us[i]?=some x->ps[i]?=some p->∃ T,x = .ref T/\aD K H T [p.1,p.2])/\(∀ (i:Nat) p y,ps[i]?=some p->bk[i]?=some y->p.1 = .str (S y.1)/\SA H y.2 p.2)
 | [],_,_,_=>⟨[],rfl,fun i x p a=>(by simp at a),fun i p y a=>(by simp at a)⟩
 | v::us,[],hl,_=>by simp at hl
 | v::us,pr::bk,hl,h=>by
  obtain ⟨ps,h1,h2,h3⟩:=U5 (us:=us) (bk:=bk) (by simpa using hl) fun i v p a b=>h (i+1) v p (by simpa using a) (by simpa using b)
  obtain ⟨b,w,rfl,h4,h5⟩:=h 0 v pr rfl rfl;refine ⟨(.str (S pr.1),w)::ps,by simp [h1],fun i x p a e=>?_,fun i p y a e=>?_⟩
  ·cases i with
   | zero=>cases a;cases e;exact ⟨b,rfl,aD.of h4⟩
   | succ i=>exact h2 i x p (by simpa using a) (by simpa using e)
  ·cases i with
   | zero=>cases a;cases e;exact ⟨rfl,h5⟩
   | succ i=>exact h3 i p y (by simpa using a) (by simpa using e)
def Qq (bk:List (List Nat×Sh)):Prop:=bk.length<=1000/\∀ p∈bk,Gd p.2/\dp p.2<=8/\(wi p.2).length<=12000000
def iJ (bk:List (List Nat×Sh)):Prop:=(∀ p∈bk,Wz p.2)/\(bk.map (·.1)).Nodup
def K1 (K:PySem.W.Frag) (CT:Addr):Sp:=fun vs H Q E=>∃ (B:Addr) (bk:List (List Nat×Sh)),vs=[.ref B]/\WC H B bk/\Qq bk/\(iJ bk->∀ H',Same H H'->Q .non H')/\(¬ iJ bk->∀ H',Same H H'->E (.ref CT) none H')
theorem Z25 {k:Nat} {Z8:Addr} (R:g.Raw "refuse_twice_in_book" "refuse_twice_in_book" xV ["book"]) (Z4X:g.aK k "refuse_twice" ["draft"] (Kr g.K Z8)) (aA:g.mg "len"=none) (gW:g.mg "set"=none) (dD:g.mg "Twice"=some (.ref Z8)) (fQ:PySem.W.excIn g.K Z8 YU "ValueError.__new__"=true):g.aK (k+1) "refuse_twice_in_book" ["book"] (K1 g.K Z8):=by
 refine R.fnX ZZ (fun vs H Q E h=>by obtain ⟨B,bk,rfl,hB,hk,q,qe⟩:=h;rfl) fun f_ cdv A outer s H vs Q E hr h=>?_
 obtain ⟨B,bk,rfl,hB,hk,q,qe⟩:=h;refine ⟨_,(Yc (Xs PassesOwn.leaving rfl (Y9 (pv 0)) (X8 (n:=2) rfl (YW (Yv (i:=1) ZZ.nd rfl (.inl rfl)) (YW (Yv (i:=2) ZZ.nd rfl (.inl rfl)) XX))) (Yd (YY (YH Z4X hr YO (Ya (pv 2) Yb)))))
   (Yd (Yo (Yk US (YJ aA W5 (Ya (XZ gW Uk (Ya (XQ (g:=Wp g.K 2 (Y5 (YD 0) (Y5 (YD 1) Wo))) (src:=[none,none]) (N':=(["name","shape"]:List Str)) (.own (.own .nil)) rfl (Y9 (pv 0)) (fun cl C s₀ H₀ fp pn=>(X8 (n:=2) rfl (YW (Yv (i:=0) (show List.Nodup (["name","shape"]:List Str) by decide +kernel) rfl (.inl rfl) (.inr rfl)) (YW (Yv (i:=1) (show List.Nodup (["name","shape"]:List Str) by decide +kernel) rfl (.inl rfl) (.inr rfl)) XX)))) (fun cl C s₀ H₀ fp pn=>Y4) (fun cl C s₀ H₀ fp pn=>(pv 0)) (by intro x hx;simp at hx)) Yb)) Yb)) (YJ aA YN (Ya (pv 0) Yb)) (Yl _)) (Yd (YK ⟨dD,fQ⟩ Y0 (Ya Yg Yb))) Yi))),?_⟩
 obtain ⟨us,h1,h2,h3⟩:=id hB;refine Xq (fun σ H'=>Same H H'/\(∀ p∈bk,Wz p.2)/\∃ o1 o2,σ=[some (.ref B),o1,o2]) ?_ ?_
 rotate_left
 ·intro N hN
  refine Wj (K:=g.K) (a:=B) (xs:=us) (fun i σ H1=>Same H H1/\(∀ (j:Nat) p,j<i->bk[j]?=some p->Wz p.2)/\∃ o1 o2,σ=[some (.ref B),o1,o2]) (fun R r=>by walk_at "rd";exact r) ⟨.refl _,fun j r h=>by omega,none,none,rfl⟩ ?_ ?_ ?_
  ·rintro i σ H1 _ ⟨s,_⟩
   exact au.of (s _ _ h1)
  ·rintro i v σ H1 hv ⟨s,hj,o1,o2,rfl⟩
   have hi:=(List.getElem?_eq_some_iff.mp hv).1;have hp:bk[i]?=some (bk[i]'(by omega)):=List.getElem?_eq_getElem _;generalize bk[i]'(by omega)=pr at hp;obtain ⟨b,w,rfl,h4,h5⟩:=h3 i v _ hv hp;have hm:=List.mem_of_getElem? hp;obtain ⟨k1,k2,k3⟩:=hk.2 pr hm;walk_at "rd";refine ⟨_,.inl (.inl (s _ _ h4)),rfl,_,_,rfl,_,_,rfl,rfl,pr.2,w,rfl,h5.keep (.of s),k1,k2,k3,fun ap H2 s2=>⟨s.trans s2,fun j p hj' hp'=>?_⟩,fun na H2 s2=>qe (fun z=>na (z.1 pr hm)) H2 (s.trans s2)⟩;by_cases c:j<i
   ·exact hj j p c hp'
   ·have:j=i:=by omega
    subst this;rw [hp] at hp'
    cases hp'
    exact ap
  ·rintro σ H1 ⟨s,hj,o1,o2,rfl⟩
   refine hN _ _ ⟨s,fun p hp=>?_,_,_,rfl⟩;obtain ⟨j,hj'⟩:=List.mem_iff_getElem?.mp hp;exact hj j p (by have:=(List.getElem?_eq_some_iff.mp hj').1;omega) hj'
 rintro σ H1 ⟨s1,ha,o1,o2,rfl⟩;have hB1:=hB.keep s1;obtain ⟨aV,u1,u2,u3⟩:=hB1;have hus:aV=us:=by rw [s1 _ _ h1] at u1;cases u1;rfl
 subst hus;obtain ⟨ps,g1,g2,g3⟩:=U5 (K:=g.K) u2 u3;have hl9:=hk.1;walk_at "rd";refine Ud (K:=g.K) (b:=B) (xs:=aV) ps (((bk.map (·.1)).map S).map V.str) (fun R r=>by walk_at "rd";exact r) (au.of u1) g2 g1 (by simp [u2]) (by omega) ?_ ?_
 ·intro j p y H2 hp hy sm R r
  rw [List.getElem?_map,List.getElem?_map,List.getElem?_map] at hy
  have hj:=(List.getElem?_eq_some_iff.mp hp).1;have hkj:bk[j]?=some (bk[j]'(by omega)):=List.getElem?_eq_getElem _;rw [hkj] at hy
  have hy':=Option.some.inj hy;subst hy';obtain ⟨z1,_⟩:=g3 j p _ hp hkj;walk_at "rd";rw [z1];exact r H2 (.refl _)
 ·intro D H2 hD sm hd
  have hml:((bk.map (·.1)).map S).length=bk.length:=by simp
  refine ⟨D,rfl,(bk.map (·.1)).map S,au.of hd,by omega,fun a2 ha2=>?_⟩;have u:=Same.ao ha2 (V7 a2 (met (fun i=>((bk.map (·.1)).map S).getD i "") ((bk.map (·.1)).map S).length).length);have s3:=sm.trans u;refine ⟨_,Yf,aV,.inl (au.of (s3 _ _ u1)),Yw (fun c1=>⟨few (by decide),qe (fun z=>?_) _ (s1.trans s3)⟩) fun c1=>q ⟨ha,?_⟩ _ (s1.trans s3)⟩
  ·have:=mt UZ.mp (fun w=>w (U0.mpr z.2))
   omega
  ·refine Classical.byContradiction fun z=>c1 ?_
   have:=UZ.mpr (fun w=>z (U0.mp w));omega
def WD (bk:List (List Nat×Sh)):Prop:=∀ p∈bk,∀ x∈jd p.2,Y6 bk x≠none
def K3 (K:PySem.W.Frag) (CN:Addr):Sp:=fun vs H Q E=>∃ (B:Addr) (bk:List (List Nat×Sh)),vs=[.ref B]/\WC H B bk/\Qq bk/\(WD bk->∀ H',Same H H'->Q .non H')/\(¬ WD bk->∀ H',Same H H'->E (.ref CN) none H')
theorem Z3G {k:Nat} {Z6:Addr} (R:g.Raw "refuse_no_name" "refuse_no_name" xW ["book"]) (lW:g.Fn k "names_used" ["shape"] (KQ g.K)) (zK:g.aK k "shape_of" ["book","name"] (zH Z6)):g.aK (k+1) "refuse_no_name" ["book"] (K3 g.K Z6):=by
 refine R.fnX sH (fun vs H Q E h=>by obtain ⟨B,bk,rfl,hB,hk,q,qe⟩:=h;rfl) fun f_ cdv A outer s H vs Q E hr h=>?_
 obtain ⟨B,bk,rfl,hB,hk,q,qe⟩:=h;refine ⟨_,(Yd (Xs PassesOwn.leaving rfl (Y9 (pv 0)) (X8 (n:=2) rfl (YW (Yv (i:=1) sH.nd rfl (.inl rfl)) (YW (Yv (i:=2) sH.nd rfl (.inl rfl)) XX))) (Yd (Xs PassesOwn.leaving rfl (Y9 (YM lW hr (Ya (pv 2) Yb))) (Yv (i:=3) sH.nd rfl (.inl rfl)) (Yd (YY (YH zK hr YO (Ya (pv 0) (Ya (pv 3) Yb))))))))),?_⟩;obtain ⟨us,h1,h2,h3⟩:=id hB;refine Wj (K:=g.K) (a:=B) (xs:=us) (fun i σ H1=>Same H H1/\(∀ (j:Nat) p,j<i->bk[j]?=some p->∀ x∈jd p.2,Y6 bk x≠none)/\∃ o1 o2 o3,σ=[some (.ref B),o1,o2,o3]) (fun R r=>by walk_at "rd";exact r) ⟨.refl _,fun j r h=>by omega,none,none,none,rfl⟩ ?_ ?_ ?_
 ·rintro i σ H1 _ ⟨s,_⟩
  exact au.of (s _ _ h1)
 ·rintro i v σ H1 hv ⟨s,hj,o1,o2,o3,rfl⟩
  have hi:=(List.getElem?_eq_some_iff.mp hv).1;have hp:bk[i]?=some (bk[i]'(by omega)):=List.getElem?_eq_getElem _;generalize bk[i]'(by omega)=pr at hp;obtain ⟨b,w,rfl,h4,h5⟩:=h3 i v _ hv hp;have hm:=List.mem_of_getElem? hp;obtain ⟨k1,k2,k3⟩:=hk.2 pr hm;walk_at "rd";refine ⟨_,.inl (.inl (s _ _ h4)),rfl,_,_,rfl,_,_,rfl,rfl,?_⟩;refine UD (K:=g.K) (fun c xs H2=>Same H H2/\H2 c=some (.lst xs)/\xs=aF (jd pr.2)) (fun R r=>?_) ?_
  ·walk_at "rd"
   exact ⟨pr.2,w,rfl,h5.keep (.of s),k1,k2,k3,fun p' H2 s2 _ hp2=>r p' _ H2 ⟨s.trans s2,hp2,rfl⟩⟩
  ·rintro c xs H2 ⟨s2,hc,rfl⟩
   refine ⟨fun k σ' H'=>Same H H'/\H' c=some (.lst (aF (jd pr.2)))/\(∀ (j:Nat) x,j<k->(jd pr.2)[j]?=some x->Y6 bk x≠none)/\∃ o,σ'=[some (.ref B),some (.str (S pr.1)),some w,o],⟨s2,hc,fun j x h=>by omega,_,rfl⟩,fun k σ' H' _ ⟨_,h,_⟩=>au.of h,?_,?_⟩
   ·rintro k v σ' H' hv ⟨s3,hc3,hj3,o,rfl⟩
    rw [aF,List.getElem?_map] at hv
    obtain ⟨x,hx,rfl⟩:=Option.map_eq_some_iff.mp hv;walk_at "rd";refine ⟨B,bk,x,rfl,hB.keep s3,hk.1,fun z v' e _=>⟨s3,hc3,fun j y hjk hy=>?_⟩,fun e=>qe (fun z=>z pr hm x (List.mem_of_getElem? hx) e) H' s3⟩;by_cases c':j<k
    ·exact hj3 j y c' hy
    ·have:j=k:=by omega
     subst this;rw [hx] at hy
     cases hy
     rw [e];intro z
     cases z
   ·rintro σ' H' ⟨s3,hc3,hj3,o,rfl⟩
    refine ⟨s3,fun j p hj' hp' x hx=>?_,_,_,_,rfl⟩;by_cases c':j<i
    ·exact hj j p c' hp' x hx
    ·have:j=i:=by omega
     subst this;rw [hp] at hp'
     cases hp'
     obtain ⟨k,hk'⟩:=List.mem_iff_getElem?.mp hx;exact hj3 k x (by rw [aF,List.length_map];exact (List.getElem?_eq_some_iff.mp hk').1) hk'
 ·rintro σ H1 ⟨s,hj,o1,o2,o3,rfl⟩
  refine q (fun p hp=>?_) H1 s;obtain ⟨j,hj'⟩:=List.mem_iff_getElem?.mp hp;exact hj j p (by have:=(List.getElem?_eq_some_iff.mp hj').1;omega) hj'
def je (bk:List (List Nat×Sh)):List (List Nat):=bk.map fun p=>p.1++61::tt p.2
theorem K4:∀ (xs:List (List Nat)),(∀ x∈xs,x.length<=2009)->((xs.map S).map (·.length)).sum<=2009*xs.length
 | [],_=>Nat.le_refl _
 | x::xs,h=>by
  have h1:=h x (.head _);have h2:=K4 xs fun y hy=>h y (.tail _ hy)
  simp only [List.map_cons,List.sum_cons,List.length_cons,Ys];omega
def K5 (K:PySem.W.Frag):Sp:=fun vs H Q _=>∃ (B:Addr) (bk:List (List Nat×Sh)),vs=[.ref B]/\WC H B bk/\Qq bk/\bk.length<=8/\(∀ p∈bk,p.1.length<=8/\(tt p.2).length<=2000)/\∀ H',Same H H'->Q (.str (S (Yp [10] (je bk)))) H'
theorem Ycl {k:Nat}  (R:g.Raw "show_book" "show_book" yc ["book"]) (tM:g.Fn k "show_shape" ["shape"] (U3 g.K 9)):g.Fn (k+1) "show_book" ["book"] (K5 g.K):=by
 refine R.fn YbQ (fun vs H Q E h=>by obtain ⟨B,bk,rfl,hB,hk,h8,hl,q⟩:=h;rfl) fun f_ cdv A outer s H vs Q E hr h=>?_
 obtain ⟨B,bk,rfl,hB,hk,h8,hl,q⟩:=h;refine ⟨_,(Yd (Yj (XF PySem.F.plainAttrs_str PySem.F.slot_str_join PySem.F.type_str_join VS Yg (Ya (XQ (g:=Wp g.K 2 (Y5 (YD 0) (Y5 (YD 1) Wo))) (src:=[none,none]) (N':=(["name","shape"]:List Str)) (.own (.own .nil)) rfl (Y9 (pv 0)) (fun cl C s₀ H₀ fp pn=>(X8 (n:=2) rfl (YW (Yv (i:=0) (show List.Nodup (["name","shape"]:List Str) by decide +kernel) rfl (.inl rfl) (.inr rfl)) (YW (Yv (i:=1) (show List.Nodup (["name","shape"]:List Str) by decide +kernel) rfl (.inl rfl) (.inr rfl)) XX)))) (fun cl C s₀ H₀ fp pn=>Y4) (fun cl C s₀ H₀ fp pn=>(Ym Yn (Ym Yn (pv 0) Yg) (YM tM hr (Ya (pv 1) Yb)))) (by intro x hx;simp at hx)) Yb)))),?_⟩;obtain ⟨us,h1,h2,h3⟩:=id hB;obtain ⟨ps,g1,g2,g3⟩:=U5 (K:=g.K) h2 h3;have e10:Str.ofString "\n"=S [10]:=by decide +kernel
 walk_at "rd";refine ⟨rfl,Ud (K:=g.K) (b:=B) (xs:=us) ps (((je bk).map S).map V.str) (fun R r=>by walk_at "rd";exact r) (au.of h1) g2 g1 (by simp [je,h2]) (by omega) ?_ ?_⟩
 ·intro j p y H2 hp hy sm R r
  rw [List.getElem?_map,List.getElem?_map,je,List.getElem?_map] at hy
  have hj:=(List.getElem?_eq_some_iff.mp hp).1;have hkj:bk[j]?=some (bk[j]'(by omega)):=List.getElem?_eq_getElem _;generalize bk[j]'(by omega)=pr at hkj;rw [hkj] at hy
  have hy':=Option.some.inj hy;subst hy';have hm:=List.mem_of_getElem? hkj;obtain ⟨k1,k2,k3⟩:=hk.2 pr hm;obtain ⟨l1,l2⟩:=hl pr hm;obtain ⟨z1,z2⟩:=g3 j p _ hp hkj;walk_at "rd";rw [z1,UH];refine ⟨_,rfl,few (by rw [Ys,Ys];simp only [List.length_cons,List.length_nil];omega),pr.2,p.2,rfl,z2.keep (.of sm),k1,by omega,by omega,fun H3 s3=>⟨_,rfl,few (by rw [YE,Ys,Ys];simp only [List.length_append,List.length_cons,List.length_nil];omega),?_⟩⟩;rw [YE,YE,List.append_assoc];exact r H3 s3
 ·intro D H2 hD sm hd
  refine ⟨_,D,(je bk).map S,rfl,rfl,au.of hd,?_,?_⟩
  ·have hs:=K4 (je bk) (fun x hx=>?_)
   ·have hlen:(je bk).length=bk.length:=by rw [je,List.length_map]
    have e1:(Str.ofString "\n").length=1:=by decide
    rw [e1,List.length_map];omega
   ·obtain ⟨pr,hm,rfl⟩:=List.mem_map.mp hx
    obtain ⟨l1,l2⟩:=hl pr hm;simp only [List.length_append,List.length_cons];omega
  ·rw [e10,X9]
   exact q H2 sm
section
variable {src:List (Option Nat)} {te:TE} {σ:St} {H:Hp} {Q:VK}
theorem Yd6 {K:PySem.W.Frag} {tl:TE} {tt:TT} {b:Addr} {xs:List V} {α:Type} (bk:List α) (G:α->V->V->Prop) (p:α->Bool) (f:α->V) (ha:∀ R:V->Hp->Prop,R (.ref b) H->tl σ H R) (hS:au K H b xs) (hp:∀ (i:Nat) x a,xs[i]?=some x->bk[i]?=some a->∃ T u w,x = .ref T/\aD K H T [u,w]/\G a u w) (hl:bk.length=xs.length) (hlen:xs.length<=100000)
  (test:∀ a u w H',a∈bk->G a u w->Same H H'->∀ R:Bool->Hp->Prop,(∀ aL,Same H' aL->R (p a) aL)->tt (some u::some w::YV src σ) H' R)
  (step:∀ a u w H',a∈bk->G a u w->p a=true->Same H H'->∀ R:VK,(∀ aL,Same H' aL->R (f a) aL)->te (some u::some w::YV src σ) H' R)
  (fin:∀ D H',H D=none->Same H H'->H' D=some (.lst ((bk.filter p).map f))->Q (.ref D) H'):iT (none::none::src) (V0 K tl) (Wp K 2 (Y5 (YD 0) (Y5 (YD 1) Wo))) tt te σ H Q:=by
 refine ha _ ⟨b,rfl,⟨xs,hS⟩,fun D hD=>?_⟩;have h6:100000<sizeLine:=by decide
 refine FW (Va.imp fun H' (e:Same H H')=>e.seq hS) (fun i zs σ' H'=>zs=((bk.take i).filter p).map f/\(∃ o o',σ'=o::o'::YV src σ)/\Same H H'/\H' D=some (.lst zs)) ⟨by simp,⟨none,none,rfl⟩,.ao hD _,Yf⟩ (fun i zs σ' H' q=>⟨q.2.2.1,q.2.2.2⟩) ?_ ?_
 ·rintro i zs σ' H' x hx ⟨rfl,⟨o,o',rfl⟩,sm,hd⟩
  have hi:=(List.getElem?_eq_some_iff.mp hx).1;have hb:bk[i]?=some (bk[i]'(by omega)):=List.getElem?_eq_getElem _;generalize bk[i]'(by omega)=a at hb;have hm:=List.mem_of_getElem? hb;obtain ⟨T,u,w,rfl,hT,hG⟩:=hp i x a hx hb;refine ⟨T,_,rfl,sm.tup hT,rfl,_,_,rfl,_,_,rfl,rfl,?_⟩;refine test a u w H' hm hG sm _ fun H2 s2=>?_
  cases e:p a with
  | true =>
   refine pq ?_;refine step a u w H2 hm hG e (sm.trans s2) _ fun H3 s3=>⟨s3 _ _ (s2 _ _ hd),?_,?_,⟨_,_,rfl⟩,.cu hD ((sm.trans s2).trans s3) _,Yf⟩
   ·have h7:=List.length_filter_le p (bk.take i)
    rw [List.length_map];rw [List.length_take] at h7
    omega
   ·rw [Wk hb,List.filter_append,List.map_append]
    simp [List.filter,e]
  | false =>
   refine Uu ?_;refine ⟨?_,⟨_,_,rfl⟩,sm.trans s2,s2 _ _ hd⟩;rw [Wk hb,List.filter_append];simp [List.filter,e]
 ·rintro zs σ' H' ⟨rfl,_,sm,hd⟩
  rw [<- hl,List.take_length] at hd
  exact fin D H' hD sm hd
end
def lb (bk:List (List Nat×Sh)) (x:List Nat):Nat->List Nat->Bool
 | 0,_=>false
 | n+1,r=>match Y6 bk r with
  | some (.use w)=>if w=x then true else lb bk x n w
  | _=>false
def XE (bk:List (List Nat×Sh)):List (List Nat):=(bk.filter fun p=>lb bk p.1 bk.length p.1).map (·.1)
theorem W0 {x:List Nat} {s:Sh}:∀ {bk:List (List Nat×Sh)},Y6 bk x=some s->(x,s)∈bk
 | (l,z)::r,h=>by
  rw [Y6] at h
  by_cases c:l=x
  ·rw [if_pos c] at h
   cases h
   exact c ▸ .head _
  ·rw [if_neg c] at h
   exact .tail _ (W0 h)
theorem UI {p:List Nat×Sh}:∀ {bk:List (List Nat×Sh)},p∈bk->Y6 bk p.1≠none
 | (l,z)::r,h=>by
  rw [Y6];by_cases c:l=p.1
  ·rw [if_pos c];intro z;cases z
  ·rw [if_neg c]
   rcases List.mem_cons.mp h with rfl | h
   ·exact (c rfl).elim
   ·exact UI h
theorem Yht (w:List Nat):jd (.use w)=[w]:=by simp [jd,wi,Xv,XT]
def K6 (K:PySem.W.Frag):Sp:=fun vs H Q _=>∃ (B:Addr) (bk:List (List Nat×Sh)) (x:List Nat),vs=[.ref B,.str (S x)]/\WC H B bk/\Qq bk/\WD bk/\Y6 bk x≠none/\Q (.bl (lb bk x bk.length x)) H
theorem Ya1 {k:Nat} {Z6:Addr} (R:g.Raw "leads_back" "leads_back" xX ["book","name"]) (zK:g.aK k "shape_of" ["book","name"] (zH Z6)) (aA:g.mg "len"=none) (Zv:g.mg "range"=none):g.Fn (k+1) "leads_back" ["book","name"] (K6 g.K):=by
 refine R.fn pJ (fun vs H Q E h=>by obtain ⟨B,bk,x,rfl,hB,hk,hn,hx,q⟩:=h;rfl) fun f_ cdv A outer s H vs Q E hr h=>?_
 obtain ⟨B,bk,x,rfl,hB,hk,hn,hx,q⟩:=h;refine ⟨_,(Yc (YB (i:=2) pJ.nd rfl (.inl rfl) (pv 1))
   (Yc (Xs PassesOwn.never rfl (XD rfl Zv (Ya (YJ aA YN (Ya (pv 0) Yb)) Yb)) (Yv (i:=3) pJ.nd rfl (.inl rfl)) (Yc (YB (i:=4) pJ.nd rfl (.inl rfl) (YH zK hr YhX (Ya (pv 0) (Ya (pv 2) Yb))))
   (Yc (Yo (Yk UR (Yr Yx (pv 4) Ye (fun _ _=>rfl)) Yg (Yl _)) (Yd (Yj W7)) Yi)
   (Yc (YB (i:=2) pJ.nd rfl (.inl rfl) (Yr Yx (pv 4) Ye (fun _ _=>rfl)))
   (Yd (Yo (Yk YG (pv 2) (pv 1) (Yl _)) (Yd (Yj W7)) Yi))))))
   (Yd (Yj W7)))),?_⟩
 have hl9:=hk.1;refine Xq (fun σ H'=>H'=H/\σ=[some (.ref B),some (.str (S x)),some (.str (S x)),none,none]) ?_ ?_
 rotate_left
 ·intro N hN
  walk_at "rd";exact hN _ _ ⟨rfl,rfl⟩
 rintro σ H1 ⟨e1,rfl⟩;subst e1;refine Xq (fun σ H'=>H'=H1/\lb bk x bk.length x=false/\∃ o1 o2 o3,σ=[some (.ref B),some (.str (S x)),o1,o2,o3]) ?_ ?_
 ·rintro σ H2 ⟨e2,e3,o1,o2,o3,rfl⟩
  subst e2;rw [e3] at q
  walk_at "rd";exact q
 intro N hN;obtain ⟨us,h1,h2,h3⟩:=id hB;refine VM (n:=bk.length) (fun i σ' H'=>H'=H1/\∃ (r:List Nat) (o1 o2:Option V),σ'=[some (.ref B),some (.str (S x)),some (.str (S r)),o1,o2]/\Y6 bk r≠none/\lb bk x bk.length x=lb bk x (bk.length - i) r) (fun R r=>by walk_at "rd";exact ⟨_,.inl (au.of h1),by rw [h2];exact r⟩) (by omega) ⟨rfl,x,none,none,rfl,hx,by rw [Nat.sub_zero]⟩ ?_ ?_
 ·rintro i σ' H' hi ⟨e2,r,o1,o2,rfl,hrr,he⟩
  subst e2;have e4:bk.length - i=(bk.length - (i+1))+1:=by omega
  rw [e4,lb] at he
  walk_at "rd";refine ⟨B,bk,r,rfl,hB,hl9,fun s v e hs=>?_,fun e=>(hrr e).elim⟩;have hm:=W0 e;have hg:=(hk.2 _ hm).1;rw [e] at he
  obtain ⟨a,m,rs,rfl,ha,hc⟩:=hs.use hg;walk_at "rd";rcases hc with ⟨n1,n2⟩ | ⟨w,rfl,rfl,rfl⟩
  ·have he':lb bk x bk.length x=false:=by
    rw [he]
    cases s<;>first | rfl | cases n2
   rw [he'] at q
   refine ⟨_,aD.of ha,_,Yz (j:=0) rfl,rfl,Xu (fun c=>?_) q⟩;have:=V.str.inj c;rw [yU,Wx] at this
   exact n1 this
  ·have he':lb bk x bk.length x=if w=x then true else lb bk x (bk.length - (i+1)) w:=he
   refine ⟨_,aD.of ha,_,rfl,rfl,Xc (fun z=>z rfl) ⟨_,aD.of ha,_,rfl,Wl _ _,Yw (fun c=>?_) fun c=>?_⟩⟩
   ·have c':w=x:=Y8 (V.str.inj c)
    rw [if_pos c'] at he'
    rw [he'] at q
    exact q
   ·have c':w≠x:=fun z=>c (by rw [z])
    rw [if_neg c'] at he'
    exact ⟨w,rfl,hn _ hm w (by rw [Yht];exact .head _),he'⟩
 ·rintro σ' H' ⟨e2,r,o1,o2,rfl,hr,he⟩
  subst e2;rw [Nat.sub_self,lb] at he
  exact hN _ _ ⟨rfl,he,_,_,_,rfl⟩
def QN (H':Hp) (d:Addr) (ring:List (List Nat)):Prop:=∃ R,H' d=some (WO d [("ring",.ref R)])/\H' R=some (.lst (aF ring))
def K7 (K:PySem.W.Frag) (CG:Addr):Sp:=fun vs H Q E=>∃ (B:Addr) (bk:List (List Nat×Sh)),vs=[.ref B]/\WC H B bk/\Qq bk/\WD bk/\(XE bk=[]->∀ H',Same H H'->Q .non H')/\(XE bk≠[]->∀ d H',Same H H'->QN H' d (XE bk)->E (.ref CG) (some d) H')
theorem Z3d {k:Nat} {Z4:Addr} (R:g.Raw "refuse_no_ground" "refuse_no_ground" xY ["book"]) (lX:g.Fn k "leads_back" ["book","name"] (K6 g.K)) (Z3e:g.sG "NoGround" Z4 ["self","ring"] ["ring"]) (hki:2<=k) (aA:g.mg "len"=none):g.aK (k+1) "refuse_no_ground" ["book"] (K7 g.K Z4):=by
 refine R.fnX Ib (fun vs H Q E h=>by obtain ⟨B,bk,rfl,hB,hk,hn,q,qe⟩:=h;rfl) fun f_ cdv A outer s H vs Q E hr h=>?_
 obtain ⟨B,bk,rfl,hB,hk,hn,q,qe⟩:=h;refine ⟨_,(Yc (PS.cO (Gq (i:=1) Ib.nd rfl (.inl rfl) (g:=Wp g.K 2 (Y5 (YD 0) (Y5 (YD 1) Wo))) (src:=[none,none,some 0]) (N':=(["name","shape","book"]:List Str)) (.own (.own (.cap (i:=0) rfl rfl (by first | exact .inl rfl | exact .inr rfl) .nil))) rfl (Y9 (pv 0)) (fun cl C s₀ H₀ fp pn=>(X8 (n:=2) rfl (YW (Yv (i:=0) (show List.Nodup (["name","shape","book"]:List Str) by decide +kernel) rfl (.inl rfl) (.inr rfl)) (YW (Yv (i:=1) (show List.Nodup (["name","shape","book"]:List Str) by decide +kernel) rfl (.inl rfl) (.inr rfl)) XX)))) (fun cl C s₀ H₀ fp pn=>(Tn (Xd (YM lX hr (Ya (pv 2) (Ya (pv 0) Yb)))))) (fun cl C s₀ H₀ fp pn=>(pv 0)) (by intro x hx;simp at hx;first | (subst hx;exact .inl rfl) | (rcases hx with rfl | rfl<;>exact .inl rfl) | (rcases hx with rfl | rfl | rfl<;>exact .inl rfl) | (rcases hx with rfl | rfl | rfl | rfl<;>exact .inl rfl) | (rcases hx with rfl | rfl | rfl | rfl | rfl<;>exact .inl rfl))))
   (Yd (Yo (Yk W8 (YJ aA YN (Ya (pv 1) Yb)) Ye (Yl _)) (Yd (YeR Z3e hr Yh0 (Ya (pv 1) Yb))) Yi))),?_⟩
 have hl9:=hk.1;obtain ⟨us,h1,h2,h3⟩:=id hB;refine Xq (fun σ H'=>∃ D,Same H H'/\H' D=some (.lst (aF (XE bk)))/\σ=[some (.ref B),some (.ref D)]) ?_ ?_
 rotate_left
 ·intro N hN
  walk_at "rd";refine Yd6 (K:=g.K) (b:=B) (xs:=us) bk (fun p u w=>u = .str (S p.1)) (fun p=>lb bk p.1 bk.length p.1) (fun p => .str (S p.1)) (fun R r=>by walk_at "rd";exact r) (au.of h1) (fun i x a hx ha=>?_) h2.symm (by omega) ?_ ?_ ?_
  ·obtain ⟨b,w,e,h4,_⟩:=h3 i x a hx ha
   exact ⟨b,_,w,e,aD.of h4,rfl⟩
  ·rintro a u w H' hm rfl sm R r
   walk_at "rd";exact ⟨B,bk,a.1,rfl,hB.keep sm,hk,hn,UI hm,_,rfl,r H' (.refl _)⟩
  ·rintro a u w H' hm rfl _ sm R r
   walk_at "rd";exact r H' (.refl _)
  ·intro D H' hD sm hd
   refine hN _ _ ⟨D,sm,?_,rfl⟩;rw [hd];unfold XE aF;rw [List.map_map];rfl
 rintro σ H1 ⟨D,s1,hD,rfl⟩;walk_at "rd";refine ⟨_,.inl (au.of hD),?_⟩;rw [aF,List.length_map];refine Yw (fun c=>?_) fun c=>?_
 ·unfold Ho
  walk_at "rd";refine ⟨by decide,fun d hd=>qe (fun z=>?_) d _ (s1.trans (.ao hd _)) ⟨D,Yf,(Same.ao hd _) _ _ hD⟩⟩;rw [z] at c
  exact absurd c (by decide)
 ·refine q (List.length_eq_zero_iff.mp ?_) H1 s1
  omega
def spl:List Nat->List (List Nat)
 | []=>[[]]
 | c::t=>if c=10 then []::spl t else match spl t with
  | []=>[[c]]
  | r::rs=>(c::r)::rs
theorem UJ:∀ {r:List Nat},10∉r->spl r=[r]
 | [],_=>rfl
 | c::r,h=>by
  have h0:c≠10:=fun z=>h (z ▸ .head _)
  rw [spl,if_neg h0,UJ fun z=>h (.tail _ z)]
theorem zL:∀ {r t:List Nat},10∉r->spl (r++10::t)=r::spl t
 | [],t,_=>by rw [List.nil_append,spl,if_pos rfl]
 | c::r,t,h=>by
  have h0:c≠10:=fun z=>h (z ▸ .head _)
  rw [List.cons_append,spl,if_neg h0,zL fun z=>h (.tail _ z)]
theorem Vw:∀ {xs:List (List Nat)},xs≠[]->(∀ r∈xs,10∉r)->spl (Yp [10] xs)=xs
 | [],h,_=>(h rfl).elim
 | [x],_,h=>UJ (h x (.head _))
 | x::y::r,_,h=>by
  have e:Yp [10] (x::y::r)=x++10::Yp [10] (y::r):=by
   show x++[10]++Yp [10] (y::r)=_
   rw [List.append_assoc];rfl
  rw [e,zL (h x (.head _)),Vw (by simp) fun z hz=>h z (.tail _ hz)]
theorem zM:∀ l:List Str,(l.map fun x=>x.cps.toList).map S=l
 | []=>rfl
 | x::l=>by
  rw [List.map_cons,List.map_cons,zM l]
  congr 1
theorem K8:∀ a:List Nat,0<=PyProof.Rows.cnt 10 a
 | []=>by rw [PyProof.Rows.cnt_nil];omega
 | x::a=>by
  have:=K8 a;rw [PyProof.Rows.cnt_cons]
  split<;>omega
theorem UK (t:List Nat):Txt.split (S t) ⟨#[10]⟩=(spl t).map S:=by
 have hlen:=PyProof.Rows.split_len (S t) 10;have tO:=StrLaws.join_split (S t) ⟨#[10]⟩;have hfree:=StrLaws.split_free (S t) 10;rw [YZ] at hlen
 generalize Txt.split (S t) ⟨#[10]⟩=ps at *;have h0:ps≠[]:=by
  rintro rfl;have:=K8 t;simp at hlen;omega
 have e1:=zM ps;generalize hy:(ps.map fun x=>x.cps.toList)=ys at e1;have hys:ys≠[]:=by rw [<- hy];simpa using h0
 have hfr:∀ r∈ys,10∉r:=fun r hr=>by
  rw [<- hy] at hr
  obtain ⟨x,hx,rfl⟩:=List.mem_map.mp hr;exact hfree x hx
 have e2:Txt.join (S [10]) (ys.map S)=Str.join (S [10]) (ys.map S):=eq_of_beq (PyProof.Rows.join_plain_closes _ _);rw [X9] at e2
 rw [<- e1] at tO
 have e3:S (Yp [10] ys)=S t:=e2.trans tO;have e4:=Y8 e3;rw [<- e4,Vw hys hfr,e1]
theorem K9:∀ t:List Nat,(spl t).length<=t.length+1/\∀ r∈spl t,r.length<=t.length
 | []=>⟨Nat.le_refl _,fun r h=>by rw [spl] at h;simp at h;subst h;exact Nat.le_refl _⟩
 | c::t=>by
  obtain ⟨h1,h2⟩:=K9 t;rw [spl]
  split
  ·refine ⟨by simp;omega,fun r h=>?_⟩
   rcases List.mem_cons.mp h with rfl | h
   ·simp
   ·have:=h2 r h;simp;omega
  ·cases e:spl t with
   | nil=>simp
   | cons r rs =>
    rw [e] at h1 h2
    refine ⟨by simp at h1 ⊢;omega,fun z h=>?_⟩;rcases List.mem_cons.mp h with rfl | h
    ·have:=h2 r (.head _);simp;omega
    ·have:=h2 z (.tail _ h);simp;omega
def dI:List (List Nat)->Option (List (List Nat×Sh))
 | []=>some []
 | r::rs=>match eU r,dI rs with
  | some p,some b=>some (p::b)
  | _,_=>none
theorem X4:∀ {rs:List (List Nat)} {r:List Nat},r∈rs->eU r=none->dI rs=none
 | x::rs,r,h,e=>by
  rw [dI];rcases List.mem_cons.mp h with rfl | h
  ·rw [e]
  ·rw [X4 h e]
   cases eU x<;>rfl
theorem La {H:Hp}:∀ {rs:List (List Nat)} {us:List V},us.length=rs.length->(∀ (i:Nat) v r,us[i]?=some v->rs[i]?=some r->∃ p,eU r=some p/\Vv H p v)->∃ bk,dI rs=some bk/\us.length=bk.length/\∀ (i:Nat) v p,us[i]?=some v->bk[i]?=some p->Vv H p v
 | [],[],_,_=>⟨[],rfl,rfl,fun i v p h=>by simp at h⟩
 | r::rs,[],hl,_=>by simp at hl
 | [],u::us,hl,_=>by simp at hl
 | r::rs,u::us,hl,h=>by
  obtain ⟨bk,e,h1,h2⟩:=La (rs:=rs) (us:=us) (by simpa using hl) fun i v r a b=>h (i+1) v r (by simpa using a) (by simpa using b)
  obtain ⟨p,e1,h3⟩:=h 0 u r rfl rfl;refine ⟨p::bk,by rw [dI,e1,e],by simp [h1],fun i v q a b=>?_⟩
  cases i with
  | zero=>cases a;cases b;exact h3
  | succ i=>exact h2 i v q (by simpa using a) (by simpa using b)
theorem Yii {r:List Nat} {p:List Nat×Sh} (h:eU r=some p):Gd p.2/\dp p.2<=8/\(wi p.2).length<=12000000:=by
 unfold eU at h
 split at h
 ·obtain ⟨s,hs,rfl⟩:=Option.map_eq_some_iff.mp h
  obtain ⟨hg,hd⟩:=Yhn hs;exact ⟨hg,Nat.le_trans hd (by decide),Yif hd hg⟩
 ·cases h
theorem UL:∀ {rs:List (List Nat)} {bk:List (List Nat×Sh)},dI rs=some bk->bk.length=rs.length/\∀ p∈bk,Gd p.2/\dp p.2<=8/\(wi p.2).length<=12000000
 | [],bk,h=>by cases h;exact ⟨rfl,fun p h=>by cases h⟩
 | r::rs,bk,h=>by
  rw [dI] at h
  cases e1:eU r with
  | none=>rw [e1] at h;cases h
  | some p =>
   cases e2:dI rs with
   | none=>rw [e1,e2] at h;cases h
   | some b =>
    rw [e1,e2] at h
    cases h
    obtain ⟨h1,h2⟩:=UL e2;refine ⟨by simp [h1],fun q hq=>?_⟩;rcases List.mem_cons.mp hq with rfl | hq
    ·exact Yii e1
    ·exact h2 q hq
def Xw (rows:List (List Nat)):Prop:=rows.length<=8/\∀ r∈rows,XG r
def Lb (K:PySem.W.Frag) (CN CC CT CR CM CG:Addr):Sp:=fun vs H Q E=>∃ x:V,vs=[x]/\((Vr K H x/\E (.ref CN) none H)\/∃ t:List Nat,x = .str (S t)/\t.length<=50000 /\
 (¬ Xw (spl t)->∀ H',Same H H'->E (.ref CC) none H') /\
 (Xw (spl t)->dI (spl t)=none->∀ H',Same H H'->E (.ref CN) none H') /\
 (∀ bk,Xw (spl t)->dI (spl t)=some bk->¬ iJ bk->∀ H',Same H H'->E (.ref CT) none H') /\
 (∀ bk,Xw (spl t)->dI (spl t)=some bk->iJ bk->¬ (∀ p∈bk,Range p.2)->∀ H',Same H H'->E (.ref CR) none H') /\
 (∀ bk,Xw (spl t)->dI (spl t)=some bk->iJ bk->(∀ p∈bk,Range p.2)->¬ WD bk->∀ H',Same H H'->E (.ref CM) none H') /\
 (∀ bk d,Xw (spl t)->dI (spl t)=some bk->iJ bk->(∀ p∈bk,Range p.2)->WD bk->XE bk≠[]->∀ H',Same H H'->QN H' d (XE bk)->E (.ref CG) (some d) H') /\
 (∀ bk F H',Xw (spl t)->dI (spl t)=some bk->iJ bk->(∀ p∈bk,Range p.2)->WD bk->XE bk=[]->Same H H'->H F=none->WC H' F bk->Q (.ref F) H'))
theorem Ycp {k:Nat} {Z0 Z3 Z8 Z5 Z6 Z4:Addr} (R:g.Raw "read_book" "read_book" xZ ["text"]) (Z3H:g.aK k "refuse_no_range" ["draft"] (Ks g.K Z5)) (Z2I:g.aK k "refuse_crowded_rows" ["rows"] (KY Z3)) (Z4Y:g.aK k "pair_drafted" ["row"] (KZ g.K Z0)) (Z2t:g.aK k "refuse_twice_in_book" ["book"] (K1 g.K Z8)) (Z4a:g.aK k "refuse_no_name" ["book"] (K3 g.K Z6)) (Z3q:g.aK k "refuse_no_ground" ["book"] (K7 g.K Z4)) (Zb:g.mg "isinstance"=none) (aU:g.mg "str"=none) (aj:g.mg "NoNote"=some (.ref Z0)) (ak:PySem.W.excIn g.K Z0 YU "ValueError.__new__"=true):g.aK (k+1) "read_book" ["text"] (Lb g.K Z0 Z3 Z8 Z5 Z6 Z4):=by
 refine R.fnX pK (fun vs H Q E h=>by obtain ⟨x,rfl,hx⟩:=h;rfl) fun f_ cdv A outer s H vs Q E hr h=>?_
 obtain ⟨x,rfl,hx⟩:=h;refine ⟨_,(Yc (Yo (Xr (Xd (YJ Zb WU (Ya (pv 0) (Ya (QC (T:="str") aU) Yb))))) (Yd (YK ⟨aj,ak⟩ Y0 (Ya Yg Yb))) Yi)
   (Yc (PS.cO (YB (i:=1) pK.nd rfl (.inl rfl) (XF PySem.F.plainAttrs_str PySem.F.slot_str_split PySem.F.type_str_split G4 (pv 0) (Ya Yg Yb))))
   (Yc (YY (YH Z2I hr YO (Ya (pv 1) Yb)))
   (Yc (YfO (i:=2) (g:=YD 0) (src:=[none]) (N':=(["row"]:List Str)) pK.nd rfl (.inl rfl) Q5 (.own .nil) rfl (Y9 (pv 1)) (fun cl C s₀ H₀ fp pn=>(Yv (i:=0) (show List.Nodup (["row"]:List Str) by decide +kernel) rfl (.inl rfl) (.inr rfl))) (fun cl C s₀ H₀ fp pn=>Y4) (fun cl C s₀ H₀ fp pn=>(YH Z4Y hr wu (Ya (pv 0) Yb))) (by intro x hx;simp at hx))
   (Yc (YY (YH Z2t hr YO (Ya (pv 2) Yb)))
   (Yc (Xs PassesOwn.leaving rfl (Y9 (pv 2)) (X8 (n:=2) rfl (YW (Yv (i:=3) pK.nd rfl (.inl rfl)) (YW (Yv (i:=4) pK.nd rfl (.inl rfl)) XX))) (Yd (YY (YH Z3H hr YO (Ya (pv 4) Yb)))))
   (Yc (YY (YH Z4a hr YO (Ya (pv 2) Yb)))
   (Yc (YY (YH Z3q hr YO (Ya (pv 2) Yb)))
   (Yd (PS.cO (Yj (pv 2)))))))))))),?_⟩
 have e10:Str.ofString "\n"=⟨#[10]⟩:=by decide +kernel
 refine Xq (fun σ H'=>H'=H/\σ=[some x,none,none,none,none]/\∃ t,x = .str (S t)) ?_ ?_
 rotate_left
 ·intro N hN
  walk_at "rd";rcases hx with ⟨⟨ty,h1,h2⟩,qe⟩ | ⟨t,rfl,_⟩
  ·exact ⟨_,rfl,_,h1,false,h2,Xu rfl ⟨few (by decide),qe⟩⟩
  ·exact ⟨_,rfl,_,.str _,true,rfl,Xc (by decide) (hN _ _ ⟨rfl,rfl,t,rfl⟩)⟩
 rintro σ H1 ⟨e1,rfl,t,rfl⟩;subst e1;rcases hx with ⟨⟨ty,h1,h2⟩,qe⟩ | ⟨t',e,hl,qc,qn,qt,qr,qm,hg,q⟩
 ·exfalso
  cases h1
  cases h2
 cases Y8 (V.str.inj e)
 obtain ⟨vW,sl2⟩:=K9 t;refine Uw (fun σ H'=>Same H1 H'/\Xw (spl t)/\∃ R,σ=[some (.str (S t)),some (.ref R),none,none,none]/\H' R=some (.lst (aF (spl t)))) ?_ ?_
 rotate_left
 ·intro N hN
  have hvl:(Txt.split (S t) ⟨#[10]⟩).map V.str=aF (spl t):=by rw [UK,List.map_map];rfl
  walk_at "rd";rw [e10];refine ⟨rfl,S t,10,rfl,rfl,by rw [Ys];omega,fun l hl'=>?_⟩;rw [hvl];have u:=Same.ao hl' (.lst (aF (spl t)));refine ⟨l,spl t,rfl,Yf,by omega,fun r hr=>by have:=sl2 r hr;omega,fun h8 hr H2 s2=>hN _ _ ⟨u.trans s2,⟨h8,hr⟩,l,rfl,s2 _ _ Yf⟩,fun hn H2 s2=>qc hn H2 (u.trans s2)⟩
 rintro σ H2 ⟨s2,jO,R,rfl,hR⟩;refine Xq (fun σ H'=>Same H1 H'/\∃ F bk,H1 F=none/\dI (spl t)=some bk/\WC H' F bk/\σ=[some (.str (S t)),some (.ref R),some (.ref F),none,none]) ?_ ?_
 rotate_left
 ·intro N hN
  have hvs:(aF (spl t)).length=(spl t).length:=by rw [aF,List.length_map]
  walk_at "rd";refine YfM (K:=g.K) (b:=R) (xs:=aF (spl t)) (fun D i y H'=>∀ r,(spl t)[i]?=some r->∃ p,eU r=some p/\Vv H' p y) (fun D i y H' aL h s r hr=>by obtain ⟨z,e1,e2⟩:=h r hr;exact ⟨z,e1,e2.keep s⟩) (fun D i y H' zs zs' h hD r hr=>?_) (fun R r=>by walk_at "rd";exact r) (au.of hR) (by have:=jO.1;omega) ?_ ?_
  ·obtain ⟨z,e1,b,w,e2,h4,h5⟩:=h r hr
   have tk:Tk H' (upd H' D (.lst zs')):=fun a ys ha=>by rw [Yq (W6 ha hD (by intro z;cases z))];exact ha
   exact ⟨z,e1,b,w,e2,tk _ _ h4,h5.keep tk⟩
  ·intro D i x H' zs hx sm hD R' r
   rw [aF,List.getElem?_map] at hx
   obtain ⟨z,hz,rfl⟩:=Option.map_eq_some_iff.mp hx;have hm:=List.mem_of_getElem? hz;walk_at "rd";refine ⟨z,rfl,by have:=sl2 z hm;omega,jO.2 z hm,fun p v H3 e s3 hp=>r v H3 s3 fun z' hz'=>?_,fun e H3 s3=>qn jO (X4 hm e) H3 ((s2.trans sm).trans s3)⟩;rw [hz] at hz'
   cases hz'
   exact ⟨p,e,hp⟩
  ·intro D ys H' hD sm hd hyl hys
   obtain ⟨bk,e,h1,h2⟩:=La (H:=H') (rs:=spl t) (us:=ys) (by omega) fun i v r a b=>hys i v a r b
   exact hN _ _ ⟨s2.trans sm,D,bk,s2.free hD,e,⟨ys,hd,h1,h2⟩,rfl⟩
 rintro σ H3 ⟨s3,F,bk,hF,nU,hB,rfl⟩;obtain ⟨bl,bo⟩:=UL nU;have tQ:Qq bk:=⟨by have:=jO.1;omega,bo⟩;refine Xq (fun σ H'=>Same H1 H'/\WC H' F bk/\iJ bk/\σ=[some (.str (S t)),some (.ref R),some (.ref F),none,none]) ?_ ?_
 rotate_left
 ·intro N hN
  walk_at "rd";exact ⟨F,bk,rfl,hB,tQ,fun h2 H4 s4=>hN _ _ ⟨s3.trans s4,hB.keep s4,h2,rfl⟩,fun hn H4 s4=>qt bk jO nU hn H4 (s3.trans s4)⟩
 rintro σ H4 ⟨s4,Ld,jP,rfl⟩;refine Xq (fun σ H'=>Same H1 H'/\WC H' F bk/\(∀ p∈bk,Range p.2)/\∃ o1 o2,σ=[some (.str (S t)),some (.ref R),some (.ref F),o1,o2]) ?_ ?_
 rotate_left
 ·intro N hN
  obtain ⟨us,h1,h2,h3⟩:=id Ld;refine Wj (K:=g.K) (a:=F) (xs:=us) (fun i σ H5=>Same H4 H5/\(∀ (j:Nat) p,j<i->bk[j]?=some p->Range p.2)/\∃ o1 o2,σ=[some (.str (S t)),some (.ref R),some (.ref F),o1,o2]) (fun R r=>by walk_at "rd";exact r) ⟨.refl _,fun j r h=>by omega,none,none,rfl⟩ ?_ ?_ ?_
  ·rintro i σ H5 _ ⟨s,_⟩
   exact au.of (s _ _ h1)
  ·rintro i v σ H5 hv ⟨s,hj,o1,o2,rfl⟩
   have hi:=(List.getElem?_eq_some_iff.mp hv).1;have hp:bk[i]?=some (bk[i]'(by omega)):=List.getElem?_eq_getElem _;generalize bk[i]'(by omega)=pr at hp;obtain ⟨b,w,rfl,h4,h5⟩:=h3 i v _ hv hp;have hm:=List.mem_of_getElem? hp;obtain ⟨k1,k2,k3⟩:=tQ.2 pr hm;walk_at "rd";refine ⟨_,.inl (.inl (s _ _ h4)),rfl,_,_,rfl,_,_,rfl,rfl,pr.2,w,rfl,h5.keep (.of s),k1,k2,k3,fun ap H6 s6=>⟨s.trans s6,fun j p hj' hp'=>?_⟩,fun na H6 s6=>qr bk jO nU jP (fun z=>na (z pr hm)) H6 ((s4.trans s).trans s6)⟩;by_cases c:j<i
   ·exact hj j p c hp'
   ·have:j=i:=by omega
    subst this;rw [hp] at hp'
    cases hp'
    exact ap
  ·rintro σ H5 ⟨s,hj,o1,o2,rfl⟩
   refine hN _ _ ⟨s4.trans s,Ld.keep s,fun p hp=>?_,_,_,rfl⟩;obtain ⟨j,hj'⟩:=List.mem_iff_getElem?.mp hp;exact hj j p (by have:=(List.getElem?_eq_some_iff.mp hj').1;omega) hj'
 rintro σ H5 ⟨s5,zN,lY,o1,o2,rfl⟩;walk_at "rd";refine ⟨F,bk,rfl,zN,tQ,fun hn H6 s6=>⟨F,bk,rfl,zN.keep s6,tQ,hn,fun zO H7 s7=>q bk F H7 jO nU jP lY hn zO ((s5.trans s6).trans s7) hF ((zN.keep s6).keep s7),fun zO d H7 s7 hR=>hg bk d jO nU jP lY hn zO H7 ((s5.trans s6).trans s7) hR⟩,fun hn H6 s6=>qm bk jO nU jP lY hn H6 (s5.trans s6)⟩
def VX (K:PySem.W.Frag):Sp:=fun vs H Q _=>∃ (a:Addr) (ns:List Int) (k:Nat),vs=[.ref a,.int k]/\au K H a (ns.map V.int)/\ns.length<=63/\Q (.int (ns.getD k 0)) H
theorem Z4Z  (R:g.Raw "_law_cell_at" "_law_cell_at" yd ["_law_script","_law_k"]) (aA:g.mg "len"=none):g.Fn (1) "_law_cell_at" ["_law_script","_law_k"] (VX g.K):=by
 refine R.fn Z4S (fun vs H Q E h=>by obtain ⟨a,ns,k,rfl,hS,hl,q⟩:=h;rfl) fun f_ cdv A outer s H vs Q E hr h=>?_
 obtain ⟨a,ns,k,rfl,hS,hl,q⟩:=h;refine ⟨_,(Yc (Yo (Yk US (pv 1) (YJ aA YN (Ya (pv 0) Yb)) (Yl _)) (Yd (Yj (Yr Xg (pv 0) (pv 1) (fun _ _=>rfl)))) Yi)
   (Yd (Yj Ye))),?_⟩
 walk_at "rd";refine ⟨_,.inl hS,Yw (fun c=>?_) fun c=>?_⟩
 ·rw [List.length_map] at c
  have hk:k<ns.length:=by omega
  have e:ns.getD k 0=ns[k]:=by simp [List.getD_eq_getElem?_getD,List.getElem?_eq_getElem hk]
  rw [e] at q
  exact ⟨_,hS,_,Yz (by rw [List.getElem?_map,List.getElem?_eq_getElem hk];rfl),q⟩
 ·rw [List.length_map] at c
  have hk:ns.length<=k:=by omega
  have e:ns.getD k 0=0:=by simp [List.getD_eq_getElem?_getD,List.getElem?_eq_none hk]
  rw [e] at q
  exact q
theorem W1 {s:Sh} (h:aO s=[]) (ha:Ap s):Wz s:=fun z hz=>by
 rw [Vf,h] at hz
 simp at hz;rw [hz];exact ha
theorem VD {s:Sh} (h:aO s=[]) (ha:Rg s):Range s:=fun z hz=>by
 rw [Vf,h] at hz
 simp at hz;rw [hz];exact ha
theorem WE {s:Sh} (ha:Ap s) (h:∀ z∈aO s,Wz z):Wz s:=fun z hz=>by
 rw [Vf] at hz
 rcases List.mem_cons.mp hz with rfl | hz
 ·exact ha
 ·obtain ⟨y,hy,hz⟩:=List.mem_flatMap.mp hz
  exact h y hy z hz
theorem Vg {s:Sh} (ha:Rg s) (h:∀ z∈aO s,Range z):Range s:=fun z hz=>by
 rw [Vf] at hz
 rcases List.mem_cons.mp hz with rfl | hz
 ·exact ha
 ·obtain ⟨y,hy,hz⟩:=List.mem_flatMap.mp hz
  exact h y hy z hz
theorem Ue (c:Nat):∀ ys:List (List Nat),(Yp [c] ys).length<=(ys.map List.length).sum+ys.length
 | []=>by simp [Yp]
 | [x]=>by simp [Yp]
 | x::y::r=>by
  have:=Ue c (y::r)
  show (x++[c]++Yp [c] (y::r)).length<=x.length+((y::r).map List.length).sum+((y::r).length+1)
  rw [List.length_append,List.length_append,List.length_singleton];omega
theorem Vx {s:Sh} (hg:Gd s) (hu:∀ w,s ≠ .use w):(tt s).length<=(mc (kd s)).length+2+((aN s).map List.length).sum+(aN s).length:=by
 have:=Ue 44 (aN s);rw [WB hg hu];simp only [List.length_append,List.length_cons,List.length_nil];omega
theorem QO {i:Int} (h:i.natAbs<10^60):(dg i).length<=61:=by
 have hl:=QG (k:=60) (by decide) h;rcases Int.natAbs_eq i with e | e
 ·rw [e];omega
 ·by_cases h0:i.natAbs=0
  ·have:i=0:=by omega
   subst this;exact Nat.le_trans hl (by decide)
  ·have:=Uz (n:=i.natAbs) (by omega)
   rw [<- e] at this
   rw [this,List.length_cons];omega
structure B7 (ls:List (List Nat)) (n L:Nat) (s:Sh):Prop where
 gd:Gd s
 bd:bd s<=n
 ap:Wz s
 rg:Range s
 us:∀ w,Sh.use w∈wi s->w∈ls
 len:(tt s).length<=L
theorem B7.up {ls:List (List Nat)} {n L n' L':Nat} {s:Sh} (h:B7 ls n L s) (hn:n<=n') (hL:L<=L'):B7 ls n' L' s:=⟨h.gd,Nat.le_trans h.bd hn,h.ap,h.rg,h.us,Nat.le_trans h.len hL⟩
theorem U6 {z:Sh} {x:List Nat} (h:Xv z=some x):z = .use x:=by
 cases z<;>first | (cases h;rfl) | cases h
theorem Le:∀ (l acc:List (List Nat)) {x:List Nat},x∈l.foldl XT acc->x∈acc\/x∈l
 | [],acc,x,h => .inl h
 | a::l,acc,x,h=>by
  rw [List.foldl_cons] at h
  rcases Le l _ h with h | h
  ·unfold XT at h
   split at h
   ·exact .inl h
   ·rcases List.mem_append.mp h with h | h
    ·exact .inl h
    ·exact .inr (by simp at h;rw [h];exact .head _)
  ·exact .inr (.tail _ h)
theorem Lf:∀ (l acc:List (List Nat)) {x:List Nat},x∈acc\/x∈l->x∈l.foldl XT acc
 | [],acc,x,h=>h.resolve_right (by simp)
 | a::l,acc,x,h=>by
  rw [List.foldl_cons];refine Lf l _ ?_;rcases h with h | h
  ·refine .inl ?_
   unfold XT
   split
   ·exact h
   ·exact List.mem_append.mpr (.inl h)
  ·rcases List.mem_cons.mp h with rfl | h
   ·refine .inl ?_
    unfold XT
    split
    ·assumption
    ·simp
   ·exact .inr h
theorem Lg {s:Sh} {x:List Nat}:x∈jd s↔Sh.use x∈wi s:=by
 constructor
 ·intro h
  have h:=(Le _ _ h).resolve_left (by simp);obtain ⟨z,hz,e⟩:=List.mem_filterMap.mp h;rw [<- U6 e];exact hz
 ·intro h
  exact Lf _ _ (.inr (List.mem_filterMap.mpr ⟨_,h,rfl⟩))
theorem Lh {s z:Sh}:z∈wi s↔z=s\/∃ p∈aO s,z∈wi p:=by
 rw [Vf,List.mem_cons,List.mem_flatMap]
theorem zP {n:Nat}:∀ {ks:aH},(∀ p∈ks.list,bd p.2<=n)->iz ks<=n
 | .nil,_=>by simp [iz]
 | .cons l s r,h=>by
  have h1:bd s<=n:=h (l,s) (.head _);have h2:=zP (ks:=r) fun p hp=>h p (.tail _ hp)
  simp only [iz];omega
theorem Yij {ls:List (List Nat)} {w:List Nat} (hw:w∈ls) (hl:Rd.aJ w=true):B7 ls 1 140 (.use w) :=
 ⟨hl,by simp [bd],W1 rfl trivial,VD rfl trivial,fun x hx=>by simp [wi] at hx;rw [hx];exact hw,by rw [Vu];have:=(XW hl).1;omega⟩
theorem YfY {ls:List (List Nat)} {i j:Int} (h1:i.natAbs<10^60) (h2:j.natAbs<10^60) (h:i<=j):B7 ls 1 140 (.whole i j):=by
 have hg:Gd (.whole i j):=⟨h1,h2⟩;refine ⟨hg,by simp [bd],W1 rfl trivial,VD rfl h,fun x hx=>by simp [wi] at hx,?_⟩;have l1:=Vx hg (by simp);have l2:=QO h1;have l3:=QO h2;have l4:=(Wa .whole).2;simp only [kd,aN,List.map_cons,List.map_nil,List.sum_cons,List.sum_nil,List.length_cons,List.length_nil] at l1;omega
theorem Yik {ls:List (List Nat)} {m:Mk} {w:List Nat} (hm:is1 m) (hw:w∈ls) (hl:Rd.aJ w=true):B7 ls 1 140 (.one m (.use w)):=by
 have hg:Gd (.one m (.use w)):=⟨hm,hl⟩;refine ⟨hg,by simp [bd],WE trivial fun z hz=>?_,Vg trivial fun z hz=>?_,fun x hx=>?_,?_⟩
 ·simp [aO] at hz;rw [hz];exact W1 rfl trivial
 ·simp [aO] at hz;rw [hz];exact VD rfl trivial
 ·simp [wi] at hx;rw [hx];exact hw
 ·have l1:=Vx hg (by simp)
  have l4:=(Wa m).2;have l5:(tt (.use w)).length<=8:=by rw [Vu];exact (XW hl).1
  simp only [kd,aN,List.map_cons,List.map_nil,List.sum_cons,List.sum_nil,List.length_cons,List.length_nil] at l1;omega
def kr:List Sh->aH
 | [] => .nil
 | s::r => .cons [] s (kr r)
def kq (j:Nat):List Sh->aH
 | [] => .nil
 | s::r => .cons [97+j] s (kq (j+1) r)
theorem WR:∀ ps:List Sh,(kr ps).list=ps.map fun s=>([],s)
 | []=>rfl
 | s::r=>by show ([],s)::(kr r).list=_;rw [WR r];rfl
theorem Li:∀ {ps:List Sh},(∀ p∈ps,Gd p)->kI (kr ps)
 | [],_=>trivial
 | s::r,h=>⟨rfl,h s (.head _),Li fun p hp=>h p (.tail _ hp)⟩
theorem QP:∀ (ps:List Sh) (j:Nat),(kq j ps).list.map (·.2)=ps
 | [],_=>rfl
 | s::r,j=>by show s::(kq (j+1) r).list.map (·.2)=_;rw [QP r (j+1)]
theorem QQ (ps:List Sh) (j:Nat):(kq j ps).list.length=ps.length:=by rw [<- List.length_map (f:=fun p:List Nat×Sh=>p.2),QP]
theorem Lj {ps:List Sh} {j:Nat} {p:List Nat×Sh} (h:p∈(kq j ps).list):p.2∈ps:=by
 have:p.2∈(kq j ps).list.map (·.2):=List.mem_map.mpr ⟨p,h,rfl⟩
 rwa [QP] at this
theorem Yil {j:Nat} (h:j<26):Rd.aJ [97+j]=true:=by
 have:∀ j:Fin 26,Rd.aJ [97+j.val]=true:=by decide +kernel
 exact this ⟨j,h⟩
theorem Lk:∀ {ps:List Sh} {j:Nat},j+ps.length<=26->(∀ p∈ps,Gd p)->kJ (kq j ps)
 | [],_,_,_=>trivial
 | s::r,j,hj,h=>⟨Yil (by rw [List.length_cons] at hj;omega),h s (.head _),Lk (by rw [List.length_cons] at hj;omega) fun p hp=>h p (.tail _ hp)⟩
theorem zQ:∀ {ps:List Sh} {j:Nat} {l:List Nat},l∈iI (kq j ps)->∃ i,j<=i/\l=[97+i]
 | s::r,j,l,h=>by
  have h:l∈[97+j]::iI (kq (j+1) r):=h;rcases List.mem_cons.mp h with rfl | h
  ·exact ⟨j,Nat.le_refl _,rfl⟩
  ·obtain ⟨i,hi,e⟩:=zQ h
   exact ⟨i,by omega,e⟩
theorem Ln:∀ (ps:List Sh) (j:Nat),(iI (kq j ps)).Nodup
 | [],_=>List.nodup_nil
 | s::r,j=>by
  show ([97+j]::iI (kq (j+1) r)).Nodup
  refine List.nodup_cons.mpr ⟨fun h=>?_,Ln r (j+1)⟩;obtain ⟨i,hi,e⟩:=zQ h;simp at e;omega
theorem WS {n:Nat}:∀ {ls:List (List Nat)},(∀ l∈ls,l.length<=n)->(ls.map List.length).sum<=n*ls.length
 | [],_=>by simp
 | l::r,h=>by
  have h1:=h l (.head _);have h2:=WS (ls:=r) fun z hz=>h z (.tail _ hz)
  rw [List.map_cons,List.sum_cons,List.length_cons,Nat.mul_add];omega
theorem Lp {ls:List (List Nat)} {ps:List Sh} (h8:ps.length<=8) (h:∀ p∈ps,B7 ls 1 140 p):B7 ls 2 1500 (.row (kr ps)):=by
 have hg:Gd (.row (kr ps)):=⟨by rw [WR,List.length_map];exact h8,Li fun p hp=>(h p hp).gd⟩;have hp:aO (.row (kr ps))=ps:=by show (kr ps).list.map (·.2)=ps;rw [WR,List.map_map];exact List.map_id ps
 refine ⟨hg,?_,WE trivial fun z hz=>?_,Vg trivial fun z hz=>?_,fun w hw=>?_,?_⟩
 ·have:iz (kr ps)<=1:=zP fun p hp=>by
   rw [WR] at hp
   obtain ⟨s,hs,rfl⟩:=List.mem_map.mp hp;exact (h s hs).bd
  simp only [bd];omega
 ·rw [hp] at hz;exact (h z hz).ap
 ·rw [hp] at hz;exact (h z hz).rg
 ·rcases Lh.mp hw with e | ⟨p,hp',hw⟩
  ·cases e
  ·rw [hp] at hp';exact (h p hp').us w hw
 ·have l1:=Vx hg (by simp)
  have l4:=(Wa .row).2;have l5:((aN (.row (kr ps))).map List.length).sum<=140*(aN (.row (kr ps))).length:=WS fun l hl=>by
   simp only [aN,WR] at hl;obtain ⟨p,hp,rfl⟩:=List.mem_map.mp hl;obtain ⟨s,hs,rfl⟩:=List.mem_map.mp hp;exact (h s hs).len
  have l6:(aN (.row (kr ps))).length=ps.length:=by simp [aN,WR]
  simp only [kd] at l1;omega
theorem Yhu {ls:List (List Nat)} {ps:List Sh} (h1:1<=ps.length) (h8:ps.length<=10) (h:∀ p∈ps,B7 ls 1 140 p):B7 ls 2 1500 (.pick (kq 0 ps)):=by
 have hg:Gd (.pick (kq 0 ps)):=⟨by rw [QQ];exact h1,by rw [QQ];exact h8,Lk (by omega) fun p hp=>(h p hp).gd⟩;have hp:aO (.pick (kq 0 ps))=ps:=QP ps 0;refine ⟨hg,?_,WE (Ln ps 0) fun z hz=>?_,Vg trivial fun z hz=>?_,fun w hw=>?_,?_⟩
 ·have:iz (kq 0 ps)<=1:=zP fun p hp=>(h _ (Lj hp)).bd
  simp only [bd];omega
 ·rw [hp] at hz;exact (h z hz).ap
 ·rw [hp] at hz;exact (h z hz).rg
 ·rcases Lh.mp hw with e | ⟨p,hp',hw⟩
  ·cases e
  ·rw [hp] at hp';exact (h p hp').us w hw
 ·have l1:=Vx hg (by simp)
  have l4:=(Wa .pick).2;have l5:((aN (.pick (kq 0 ps))).map List.length).sum<=142*(aN (.pick (kq 0 ps))).length:=WS fun l hl=>by
   simp only [aN] at hl;obtain ⟨p,hp,rfl⟩:=List.mem_map.mp hl;have k1:=(h _ (Lj hp)).len;obtain ⟨i,_,e⟩:=zQ (l:=p.1) (ps:=ps) (j:=0) (List.mem_map.mpr ⟨p,hp,rfl⟩);rw [e];simp;omega
  have l6:(aN (.pick (kq 0 ps))).length=ps.length:=by simp [aN,QQ]
  simp only [kd] at l1;omega
def qb (ps:List Sh) (k:Nat):Sh:=match ps with
 | [] => .row .nil
 | [p]=>p
 | p::q::r=>if k%3=2 then .row (kr ((p::q::r).take 8)) else .pick (kq 0 ((p::q::r).take 10))
theorem Lq {ls:List (List Nat)} {ps:List Sh} (k:Nat) (h:∀ p∈ps,B7 ls 1 140 p):B7 ls 2 1500 (qb ps k):=by
 match ps,h with
 | [],h=>exact Lp (ps:=[]) (by simp) h
 | [p],h=>exact (h p (.head _)).up (by decide) (by decide)
 | p::q::r,h =>
  show B7 ls 2 1500 (if k%3=2 then _ else _)
  split
  ·exact Lp (by rw [List.length_take];omega) fun z hz=>h z (List.mem_of_mem_take hz)
  ·exact Yhu (by rw [List.length_take,List.length_cons,List.length_cons];omega) (by rw [List.length_take];omega) fun z hz=>h z (List.mem_of_mem_take hz)
def nY:Sh := .one .many (.text [97,98,97])
def jy:List Nat:=[110,111,119,104,101,114,101]
def r4 (s:Sh):Sh := .row (.cons [] s (.cons [] nY .nil))
def r5 (s:Sh):Sh := .row (.cons [] (.whole 3 (-2)) (.cons [] s .nil))
def r6 (s:Sh):Sh := .row (.cons [] s (.cons [] (.use jy) .nil))
def m7:List Nat:=(List.replicate 7 (mc .many++[40])).flatten
def WF:List (List Nat):=[[110,105,110,101,115,105,103,110,115],[],[78,97],[110,49]]
def XM (w:Nat) (nm fi:List Nat) (s:Sh):List Nat :=
 if w=1 then nm++tt s else if w=2 then WF.getD ((tt s).length%4) []++61::tt s else if w=3 then fi++61::tt s else if w=4 then nm++61::tt (r4 s) else if w=5 then nm++61::tt (r5 s) else if w=6 then nm++61::tt (r6 s) else if w=7 then nm++61::(m7++(tt s++List.replicate 7 41)) else nm++61::tt s
def rsh (w:Nat) (s:Sh):Sh:=if w=4 then r4 s else if w=5 then r5 s else if w=6 then r6 s else s
theorem Yim:Gd nY:=⟨.inl rfl,by decide,by decide,by decide⟩
theorem CV:Gd (.use jy):=by show Rd.aJ jy=true;decide +kernel
theorem CW:Gd (.whole 3 (-2)):=⟨by decide,by decide⟩
section
 variable {ls:List (List Nat)} {s:Sh} (b:B7 ls 2 1500 s)
 include b
theorem Vy (w:Nat):Gd (rsh w s)/\bd (rsh w s)<=6:=by
 have h:=b.bd;unfold rsh
 split
 ·exact ⟨⟨by simp [aH.list],rfl,b.gd,rfl,Yim,trivial⟩,by simp only [r4,nY,bd,iz];omega⟩
 ·split
  ·exact ⟨⟨by simp [aH.list],rfl,CW,rfl,b.gd,trivial⟩,by simp only [r5,bd,iz];omega⟩
  ·split
   ·exact ⟨⟨by simp [aH.list],rfl,b.gd,rfl,CV,trivial⟩,by simp only [r6,bd,iz];omega⟩
   ·exact ⟨b.gd,by omega⟩
theorem Lr (w:Nat):Wz (rsh w s)↔w≠4:=by
 unfold rsh
 split
 ·rename_i c
  refine ⟨fun h=>?_,fun h=>(h c).elim⟩;have:Ap (.text [97,98,97]):=h _ (by simp [r4,nY,wi,kW]);exact absurd this (by show ¬ [97,98,97].Nodup;decide)
 ·rename_i c
  refine ⟨fun _=>c,fun _=>?_⟩
  split
  ·refine WE trivial fun z hz=>?_
   have hz:z∈[Sh.whole 3 (-2),s]:=hz;rcases List.mem_cons.mp hz with rfl | hz
   ·exact W1 rfl trivial
   ·simp at hz;rw [hz];exact b.ap
  ·split
   ·refine WE trivial fun z hz=>?_
    have hz:z∈[s,Sh.use jy]:=hz;rcases List.mem_cons.mp hz with rfl | hz
    ·exact b.ap
    ·simp at hz;rw [hz];exact W1 rfl trivial
   ·exact b.ap
theorem Yin (w:Nat) (h4:w≠4):Range (rsh w s)↔w≠5:=by
 unfold rsh;rw [if_neg h4]
 split
 ·rename_i c
  refine ⟨fun h=>?_,fun h=>(h c).elim⟩;have:Rg (.whole 3 (-2)):=h _ (by simp [r5,wi,kW]);exact absurd this (by show ¬ ((3:Int) <= -2);decide)
 ·rename_i c
  refine ⟨fun _=>c,fun _=>?_⟩
  split
  ·refine Vg trivial fun z hz=>?_
   have hz:z∈[s,Sh.use jy]:=hz;rcases List.mem_cons.mp hz with rfl | hz
   ·exact b.rg
   ·simp at hz;rw [hz];exact VD rfl trivial
  ·exact b.rg
theorem Yio:jy∈jd (rsh 6 s):=Lg.mpr (by simp [rsh,r6,wi,kW])
theorem Yip {w:Nat} (h4:w≠4) (h5:w≠5) (h6:w≠6):∀ x∈jd (rsh w s),x∈ls:=fun x hx=>by
 unfold rsh at hx;rw [if_neg h4,if_neg h5,if_neg h6] at hx
 exact b.us x (Lg.mp hx)
theorem Pg (w:Nat):(tt (rsh w s)).length<=1600:=by
 have hg:=(Vy b w).1;have h:=b.len;unfold rsh at hg ⊢
 split
 ·rename_i c
  rw [if_pos c] at hg
  have l1:=Vx hg (by simp [r4]);have l2:(tt nY).length=15:=by decide +kernel
  have l4:=(Wa .row).2;simp only [r4,kd,aN,aH.list,List.map_cons,List.map_nil,List.sum_cons,List.sum_nil,List.length_cons,List.length_nil] at l1 ⊢;omega
 ·rename_i c
  rw [if_neg c] at hg
  split
  ·rename_i c
   rw [if_pos c] at hg
   have l1:=Vx hg (by simp [r5]);have l2:(tt (.whole 3 (-2))).length<=20:=by decide +kernel
   have l4:=(Wa .row).2;simp only [r5,kd,aN,aH.list,List.map_cons,List.map_nil,List.sum_cons,List.sum_nil,List.length_cons,List.length_nil] at l1 ⊢;omega
  ·rename_i c
   rw [if_neg c] at hg
   split
   ·rename_i c
    rw [if_pos c] at hg
    have l1:=Vx hg (by simp [r6]);have l2:(tt (.use jy)).length<=20:=by decide +kernel
    have l4:=(Wa .row).2;simp only [r6,kd,aN,aH.list,List.map_cons,List.map_nil,List.sum_cons,List.sum_nil,List.length_cons,List.length_nil] at l1 ⊢;omega
   ·omega
end
theorem Ls {c0:Nat} (h0:c0=10\/c0=61\/128<=c0) {c:Nat} (h:Rd.aG c=true):c≠c0:=by
 simp [Rd.aG,Rd.cC,Rd.isSmall,Rd.iG,Rd.bx] at h;omega
theorem UM {c0:Nat} (h0:c0=10\/c0=61\/128<=c0) {c:Nat} (h:Rd.isSmall c=true):c≠c0:=by
 simp [Rd.isSmall] at h;omega
theorem Lw {c0:Nat} (h0:c0=10\/c0=61\/128<=c0) {l w:List Nat} (hl:Rd.gb l) (hw:Rd.gw w):c0∉Rd.head l w:=fun h=>by
 unfold Rd.head at h
 split at h
 ·exact Ls h0 (hw.2.2 _ h) rfl
 ·rcases List.mem_append.mp h with h | h
  ·exact UM h0 (hl.2 _ h) rfl
  ·rcases List.mem_cons.mp h with h | h
   ·omega
   ·exact Ls h0 (hw.2.2 _ h) rfl
mutual
theorem qU {c0:Nat} (h0:c0=10\/c0=61\/128<=c0):∀ {n:Rd.Note} {d:Nat},Rd.Ok d n->c0∉Rd.txt n
 | .leaf l w,d,h=>by
  have h':Rd.gb l/\Rd.gw w:=by cases d<;>exact h
  exact Lw h0 h'.1 h'.2
 | .node l w ks,0,h=>h.elim
 | .node l w ks,d+1,h=>fun z=>by
  rw [Rd.txt] at z
  rcases List.mem_append.mp z with z | z
  ·exact Lw h0 h.1 h.2.1 z
  ·rcases List.mem_cons.mp z with z | z
   ·omega
   ·rcases List.mem_append.mp z with z | z
    ·exact Lx h0 h.2.2 z
    ·simp at z;omega
theorem Lx {c0:Nat} (h0:c0=10\/c0=61\/128<=c0):∀ {ks:Rd.Notes} {d:Nat},Rd.fH d ks->c0∉Rd.cB ks
 | .nil,d,_=>fun z=>by simp [Rd.cB] at z
 | .cons n .nil,d,h=>fun z=>by
  rw [Rd.cB] at z
  exact qU h0 h.1 z
 | .cons n (.cons m r),d,h=>fun z=>by
  rw [Rd.cB] at z
  rcases List.mem_append.mp z with z | z
  ·exact qU h0 h.1 z
  ·rcases List.mem_cons.mp z with z | z
   ·omega
   ·exact Lx h0 (ks := .cons m r) h.2 z
end
theorem tR {c0:Nat} (h0:c0=10\/c0=61\/128<=c0) {s:Sh} (hg:Gd s) (hb:bd s<=6):c0∉tt s:=qU h0 (U2 s [] 6 hg WA hb)
theorem tU {s:Sh} (hg:Gd s) (hb:bd s<=6):10∉tt s:=tR (.inl rfl) hg hb
theorem Ph {s:Sh} (hg:Gd s) (hb:bd s<=6):61∉tt s:=tR (.inr (.inl rfl)) hg hb
theorem Ly {l:List Nat} (h:Rd.aJ l=true):10∉l/\61∉l:=⟨fun z=>UM (.inl rfl) ((XW h).2 _ z) rfl,fun z=>UM (.inr (.inl rfl)) ((XW h).2 _ z) rfl⟩
theorem Qr {x:List Nat} (h:∀ c,128<=c->c∉x):PyData.strOk (S x)=true:=by
 unfold PyData.strOk;rw [Array.all_eq_true_iff_forall_mem];intro c hc;have hc:c∈x:=by simpa [S] using hc
 refine decide_eq_true ?_;by_cases c1:128<=c
 ·exact (h c c1 hc).elim
 ·omega
theorem Yiq {s:Sh} (hg:Gd s) (hb:bd s<=6):PyData.strOk (S (tt s))=true:=Qr fun c h=>tR (.inr (.inr h)) hg hb
theorem Yhv {l:List Nat} (h:Rd.aJ l=true):PyData.strOk (S l)=true:=Qr fun c hc z=>UM (.inr (.inr hc)) ((XW h).2 _ z) rfl
theorem Lz:∀ {a b:List Nat} {d:Int},Rd.bG d (a++b)->Rd.bG d a
 | [],b,d,h=>trivial
 | c::a,b,d,h=>⟨h.1,Lz h.2⟩
theorem QR:m7=[109,97,110,121,40,109,97,110,121,40,109,97,110,121,40,109,97,110,121,40,109,97,110,121,40,109,97,110,121,40,109,97,110,121,40]:=by decide +kernel
theorem Yir {b:List Nat}:¬ Rd.bG 0 (m7++b):=fun h=>by
 have h1:=Lz h;rw [QR] at h1
 simp [Rd.bG,Rd.aP] at h1
theorem LK:∀ j:Nat,j<4->61∉WF.getD j []/\10∉WF.getD j []/\Rd.aJ (WF.getD j [])=false/\(WF.getD j []).length<=9:=by
 have:∀ j:Fin 4,61∉WF.getD j.val []/\10∉WF.getD j.val []/\Rd.aJ (WF.getD j.val [])=false/\(WF.getD j.val []).length<=9:=by decide +kernel
 exact fun j h=>this ⟨j,h⟩
structure RF (w:Nat) (nm fi:List Nat) (s:Sh) (r:List Nat):Prop where
 n10:10∉r
 len:r.length<=1700
 cr:XG r↔w≠7
 nn:w=1\/w=2->eU r=none
 ok:w≠1->w≠2->w≠7->eU r=some (if w=3 then fi else nm,rsh w s)/\r=(if w=3 then fi else nm)++61::tt (rsh w s)
theorem zR {a b:List Nat} {c x:Nat} (ha:x∉a) (hc:x≠c) (hb:x∉b):x∉a++c::b:=fun z=>by
 rcases List.mem_append.mp z with z | z
 ·exact ha z
 ·rcases List.mem_cons.mp z with z | z
  ·exact hc z
  ·exact hb z
theorem Yhw {nm:List Nat} {s:Sh} (hl:Rd.aJ nm=true) (hg:Gd s) (hb:bd s<=6) (ht:(tt s).length<=1600):10∉nm++61::tt s/\(nm++61::tt s).length<=1700/\XG (nm++61::tt s)/\eU (nm++61::tt s)=some (nm,s):=by
 obtain ⟨h1,h2⟩:=Ly hl;obtain ⟨d1,d2⟩:=KC hg hb;have e1:aW (nm++61::tt s)=tt s:=WZ h2;have e2:YQ (nm++61::tt s)=nm:=U4 h2;have l8:=(XW hl).1;refine ⟨zR h1 (by decide) (tU hg hb),by rw [List.length_append,List.length_cons];omega,⟨by rw [e1];omega,by rw [e1];exact d2⟩,?_⟩;rw [eU,if_pos ⟨by simp,by rw [e2];exact hl⟩,e1,e2,d1];rfl
theorem Yhx {ls:List (List Nat)} {w:Nat} {nm fi:List Nat} {s:Sh} (b:B7 ls 2 1500 s) (hn:Rd.aJ nm=true) (hf:Rd.aJ fi=true):RF w nm fi s (XM w nm fi s):=by
 have qd:bd s<=6:=Nat.le_trans b.bd (by decide);have hlen:=b.len;have l8:=(XW hn).1;obtain ⟨n1,n2⟩:=Ly hn;by_cases c1:w=1
 ·subst c1
  have e:XM 1 nm fi s=nm++tt s:=rfl;have no:61∉nm++tt s:=fun z=>by
   rcases List.mem_append.mp z with z | z
   ·exact n2 z
   ·exact Ph b.gd qd z
  rw [e];refine ⟨fun z=>?_,by rw [List.length_append];omega,⟨fun _=>by decide,fun _=>?_⟩,fun _=>?_,fun h=>(h rfl).elim⟩
  ·rcases List.mem_append.mp z with z | z
   ·exact n1 z
   ·exact tU b.gd qd z
  ·unfold XG
   rw [KR no];exact ⟨by simp,trivial⟩
  ·rw [eU,if_neg fun z=>no z.1]
 by_cases c2:w=2
 ·subst c2
  have e:XM 2 nm fi s=WF.getD ((tt s).length%4) []++61::tt s:=rfl;rw [e];obtain ⟨b1,b2,b3,b4⟩:=LK ((tt s).length%4) (Nat.mod_lt _ (by decide));generalize WF.getD ((tt s).length%4) []=bd at *;obtain ⟨d1,d2⟩:=KC b.gd qd;refine ⟨zR b2 (by decide) (tU b.gd qd),by rw [List.length_append,List.length_cons];omega,⟨fun _=>by decide,fun _=>?_⟩,fun _=>?_,fun _ h=>(h rfl).elim⟩
  ·unfold XG
   rw [WZ b1];exact ⟨by omega,d2⟩
  ·rw [eU,if_neg fun z=>?_]
   rw [U4 b1,b3] at z
   exact absurd z.2 (by decide)
 by_cases c7:w=7
 ·subst c7
  have e:XM 7 nm fi s=nm++61::(m7++(tt s++List.replicate 7 41)):=rfl;rw [e];refine ⟨zR n1 (by decide) fun z=>?_,?_,⟨fun h=>?_,fun h=>(h rfl).elim⟩,fun h=>by omega,fun _ _ h=>(h rfl).elim⟩
  ·rcases List.mem_append.mp z with z | z
   ·rw [QR] at z;exact absurd z (by decide)
   ·rcases List.mem_append.mp z with z | z
    ·exact tU b.gd qd z
    ·simp at z
  ·rw [QR]
   simp only [List.length_append,List.length_cons,List.length_nil,List.length_replicate];omega
  ·unfold XG at h
   rw [WZ n2] at h
   exact (Yir h.2).elim
 obtain ⟨g1,g2⟩:=Vy b w;have g3:=Pg b w;have e:XM w nm fi s=(if w=3 then fi else nm)++61::tt (rsh w s):=by
  unfold XM rsh;rw [if_neg c1,if_neg c2];by_cases c3:w=3
  ·subst c3
   rfl
  rw [if_neg c3,if_neg c3,if_neg c7];by_cases c4:w=4
  ·rw [if_pos c4,if_pos c4]
  rw [if_neg c4,if_neg c4];by_cases c5:w=5
  ·rw [if_pos c5,if_pos c5]
  rw [if_neg c5,if_neg c5];by_cases c6:w=6
  ·rw [if_pos c6,if_pos c6]
  rw [if_neg c6,if_neg c6]
 have hl:Rd.aJ (if w=3 then fi else nm)=true:=by split<;>assumption
 obtain ⟨f1,f2,f3,f4⟩:=Yhw hl g1 g2 g3;rw [e];exact ⟨f1,f2,⟨fun _=>c7,fun _=>f3⟩,fun h=>by omega,fun _ _ _=>⟨f4,rfl⟩⟩
abbrev jk:=Nat×List Nat×Sh
def Yy (fi:List Nat) (its:List jk):List (List Nat):=its.map fun i=>XM i.1 i.2.1 fi i.2.2
def gC (fi:List Nat) (its:List jk):List (List Nat×Sh):=its.map fun i=>(if i.1=3 then fi else i.2.1,rsh i.1 i.2.2)
def d7 (its:List jk):List Nat:=its.map (·.1)
structure j5 (ls:List (List Nat)) (fi:List Nat) (its:List jk):Prop where
 nm:its.map (·.2.1)=ls
 bQ:∀ l∈ls,Rd.aJ l=true/\l.length<=2
 nd:ls.Nodup
 hd:ls.head?=some fi
 b7:∀ i∈its,B7 ls 2 1500 i.2.2
 l9:its.length<=9
section
 variable {ls:List (List Nat)} {fi:List Nat} {its:List jk} (o:j5 ls fi its)
 include o
theorem LQ:Rd.aJ fi=true:=(o.bQ fi (List.mem_of_mem_head? o.hd)).1
theorem zT {i:jk} (h:i∈its):i.2.1∈ls:=by rw [<- o.nm];exact List.mem_map.mpr ⟨i,h,rfl⟩
theorem U7 {i:jk} (h:i∈its):RF i.1 i.2.1 fi i.2.2 (XM i.1 i.2.1 fi i.2.2):=Yhx (o.b7 i h) (o.bQ _ (zT o h)).1 (LQ o)
theorem QS:Yy fi its≠[]:=fun z=>by
 have h1:its=[]:=List.map_eq_nil_iff.mp z;have h2:=o.hd;rw [<- o.nm,h1] at h2
 cases h2
theorem QT:∀ r∈Yy fi its,10∉r:=fun r hr=>by
 obtain ⟨i,hi,rfl⟩:=List.mem_map.mp hr;exact (U7 o hi).n10
theorem QU:spl (Yp [10] (Yy fi its))=Yy fi its:=Vw (QS o) (QT o)
theorem W2:(Yp [10] (Yy fi its)).length<=16000/\∀ r∈Yy fi its,r.length<=1700:=by
 have h1:∀ r∈Yy fi its,r.length<=1700:=fun r hr=>by
  obtain ⟨i,hi,rfl⟩:=List.mem_map.mp hr;exact (U7 o hi).len
 refine ⟨?_,h1⟩;have h2:=Ue 10 (Yy fi its);have h3:=WS h1;have h4:(Yy fi its).length=its.length:=List.length_map ..;have h5:=o.l9;omega
theorem UN:(∀ r∈Yy fi its,XG r)↔7∉d7 its:=by
 constructor
 ·intro h z
  obtain ⟨i,hi,e⟩:=List.mem_map.mp z;exact (U7 o hi).cr.mp (h _ (List.mem_map.mpr ⟨i,hi,rfl⟩)) e
 ·intro h r hr
  obtain ⟨i,hi,rfl⟩:=List.mem_map.mp hr;exact (U7 o hi).cr.mpr fun e=>h (List.mem_map.mpr ⟨i,hi,e⟩)
theorem CZ:Xw (Yy fi its)↔its.length<=8/\7∉d7 its:=by
 have h4:(Yy fi its).length=its.length:=List.length_map ..;unfold Xw;rw [h4,UN o]
theorem Yis (h:1∈d7 its\/2∈d7 its):dI (Yy fi its)=none:=by
 have:∃ i∈its,i.1=1\/i.1=2:=by
  rcases h with h | h
  ·obtain ⟨i,hi,e⟩:=List.mem_map.mp h;exact ⟨i,hi,.inl e⟩
  ·obtain ⟨i,hi,e⟩:=List.mem_map.mp h;exact ⟨i,hi,.inr e⟩
 obtain ⟨i,hi,e⟩:=this;exact X4 (List.mem_map.mpr ⟨i,hi,rfl⟩) ((U7 o hi).nn e)
theorem LR (h1:1∉d7 its) (h2:2∉d7 its) (h7:7∉d7 its) {i:jk} (hi:i∈its):eU (XM i.1 i.2.1 fi i.2.2)=some (if i.1=3 then fi else i.2.1,rsh i.1 i.2.2)/\XM i.1 i.2.1 fi i.2.2=(if i.1=3 then fi else i.2.1)++61::tt (rsh i.1 i.2.2) :=
 (U7 o hi).ok (fun e=>h1 (List.mem_map.mpr ⟨i,hi,e⟩)) (fun e=>h2 (List.mem_map.mpr ⟨i,hi,e⟩)) fun e=>h7 (List.mem_map.mpr ⟨i,hi,e⟩)
theorem Yit (h1:1∉d7 its) (h2:2∉d7 its) (h7:7∉d7 its):dI (Yy fi its)=some (gC fi its):=by
 have key:∀ l:List jk,(∀ i∈l,i∈its)->dI (Yy fi l)=some (gC fi l):=fun l hl=>by
  induction l with
  | nil=>rfl
  | cons i r ih =>
   show dI (XM i.1 i.2.1 fi i.2.2::Yy fi r)=some (_::gC fi r)
   rw [dI,(LR o h1 h2 h7 (hl i (.head _))).1,ih fun z hz=>hl z (.tail _ hz)]
 exact key its fun _ h=>h
theorem Uf (h3:3∉(d7 its).drop 1):(gC fi its).map (·.1)=ls:=by
 have hd:=o.hd;have nm:=o.nm;unfold d7 at h3;unfold gC;rw [List.map_map];clear o
 cases its with
 | nil=>exact nm
 | cons i r =>
  rw [List.map_cons] at nm h3 ⊢
  rw [<- nm] at hd ⊢
  cases hd
  congr 1
  ·show (if i.1=3 then i.2.1 else i.2.1)=i.2.1
   split<;>rfl
  ·refine List.map_congr_left fun z hz=>?_
   show (if z.1=3 then i.2.1 else z.2.1)=z.2.1
   exact if_neg fun e=>h3 (List.mem_map.mpr ⟨z,hz,e⟩)
theorem Yiu:iJ (gC fi its)↔4∉d7 its/\3∉(d7 its).drop 1:=by
 constructor
 ·rintro ⟨ha,hn⟩
  refine ⟨fun z=>?_,fun z=>?_⟩
  ·obtain ⟨i,hi,e⟩:=List.mem_map.mp z
   exact (Lr (o.b7 i hi) i.1).mp (ha _ (List.mem_map.mpr ⟨i,hi,rfl⟩)) e
  ·have hd:=o.hd
   rw [<- o.nm] at hd
   clear o ha
   cases its with
   | nil=>cases hd
   | cons i r =>
    cases hd
    obtain ⟨j,hj,e⟩:=List.mem_map.mp (show 3∈r.map (·.1) from z);rw [gC,List.map_cons,List.map_cons,List.nodup_cons] at hn
    refine hn.1 (List.mem_map.mpr ⟨_,List.mem_map.mpr ⟨j,hj,rfl⟩,?_⟩)
    show (if j.1=3 then i.2.1 else j.2.1)=(if i.1=3 then i.2.1 else i.2.1)
    rw [if_pos e]
    split<;>rfl
 ·rintro ⟨h4,h3⟩
  refine ⟨fun p hp=>?_,by rw [Uf o h3];exact o.nd⟩;obtain ⟨i,hi,rfl⟩:=List.mem_map.mp hp;exact (Lr (o.b7 i hi) i.1).mpr fun e=>h4 (List.mem_map.mpr ⟨i,hi,e⟩)
theorem Dc (h4:4∉d7 its):(∀ p∈gC fi its,Range p.2)↔5∉d7 its:=by
 have k:∀ i∈its,(Range (rsh i.1 i.2.2)↔i.1≠5):=fun i hi=>Yin (o.b7 i hi) i.1 fun e=>h4 (List.mem_map.mpr ⟨i,hi,e⟩)
 constructor
 ·intro h z
  obtain ⟨i,hi,e⟩:=List.mem_map.mp z;exact (k i hi).mp (h _ (List.mem_map.mpr ⟨i,hi,rfl⟩)) e
 ·intro h p hp
  obtain ⟨i,hi,rfl⟩:=List.mem_map.mp hp;exact (k i hi).mpr fun e=>h (List.mem_map.mpr ⟨i,hi,e⟩)
theorem Mf (h3:3∉(d7 its).drop 1) {x:List Nat}:Y6 (gC fi its) x≠none↔x∈ls:=by
 constructor
 ·intro h
  obtain ⟨s,e⟩:=Option.ne_none_iff_exists'.mp h;have:x∈(gC fi its).map (·.1):=List.mem_map.mpr ⟨_,W0 e,rfl⟩;rw [Uf o h3] at this
  exact this
 ·intro h
  rw [<- Uf o h3] at h
  obtain ⟨p,hp,rfl⟩:=List.mem_map.mp h;exact UI hp
theorem Dd (h4:4∉d7 its) (h5:5∉d7 its) (h3:3∉(d7 its).drop 1):WD (gC fi its)↔6∉d7 its:=by
 constructor
 ·intro h z
  obtain ⟨i,hi,e⟩:=List.mem_map.mp z;have h1:=h _ (List.mem_map.mpr ⟨i,hi,rfl⟩) jy (by show jy∈jd (rsh i.1 i.2.2);rw [e];exact Yio (o.b7 i hi));have h2:=(o.bQ _ ((Mf o h3).mp h1)).2;exact absurd h2 (by decide)
 ·intro h p hp x hx
  obtain ⟨i,hi,rfl⟩:=List.mem_map.mp hp;have k:∀ n,n∉d7 its->i.1≠n:=fun n hn e=>hn (List.mem_map.mpr ⟨i,hi,e⟩)
  exact (Mf o h3).mpr (Yip (o.b7 i hi) (k 4 h4) (k 5 h5) (k 6 h) x hx)
end
def br (bk:List (List Nat×Sh)) (x:List Nat):Option (List Nat):=(Y6 bk x).bind Xv
def stp (bk:List (List Nat×Sh)) (x:List Nat):Option (List Nat)->Option (List Nat)
 | none=>none
 | some w=>if w=x then some w else br bk w
def eV (bk:List (List Nat×Sh)) (x:List Nat):Nat->Option (List Nat)->Option (List Nat)
 | 0,h=>h
 | m+1,h=>eV bk x m (stp bk x h)
theorem zU (bk:List (List Nat×Sh)) (x:List Nat):∀ (m:Nat) (h:Option (List Nat)),eV bk x (m+1) h=stp bk x (eV bk x m h)
 | 0,h=>rfl
 | m+1,h=>by rw [eV,zU bk x m (stp bk x h)];rfl
theorem nZ (bk:List (List Nat×Sh)) (x:List Nat) (n:Nat) (r:List Nat):lb bk x (n+1) r=match br bk r with
  | some w=>if w=x then true else lb bk x n w
  | none=>false:=by
 rw [lb,br]
 cases e:Y6 bk r with
 | none=>rfl
 | some s=>cases s<;>rfl
theorem Mg (bk:List (List Nat×Sh)) (x:List Nat):∀ m,eV bk x m none=none
 | 0=>rfl
 | m+1=>Mg bk x m
theorem Mh (bk:List (List Nat×Sh)) (x:List Nat):∀ m,eV bk x m (some x)=some x
 | 0=>rfl
 | m+1=>by
  rw [eV,stp,if_pos rfl];exact Mh bk x m
theorem zV (bk:List (List Nat×Sh)) (x:List Nat):∀ (m:Nat) (r:List Nat),eV bk x m (br bk r)=some x↔lb bk x (m+1) r=true
 | 0,r=>by
  rw [nZ,eV]
  cases e:br bk r with
  | none=>simp
  | some w=>simp [lb]
 | m+1,r=>by
  rw [nZ,eV]
  cases e:br bk r with
  | none=>simp [stp,Mg]
  | some w =>
   show eV bk x m (stp bk x (some w))=some x↔(if w=x then true else lb bk x (m+1) w)=true
   rw [stp];by_cases c:w=x
   ·rw [if_pos c,if_pos c,c,Mh]
    simp
   ·rw [if_neg c,if_neg c]
    exact zV bk x m w
theorem zW (bk:List (List Nat×Sh)) (x:List Nat):∀ (m:Nat) (r:List Nat),lb bk x m r=true->lb bk x (m+1) r=true
 | 0,r,h=>by cases h
 | m+1,r,h=>by
  rw [nZ] at h ⊢
  cases e:br bk r with
  | none=>rw [e] at h;cases h
  | some w =>
   rw [e] at h
   have h:(if w=x then true else lb bk x m w)=true:=h
   show (if w=x then true else lb bk x (m+1) w)=true
   by_cases c:w=x
   ·rw [if_pos c]
   ·rw [if_neg c] at h ⊢
    exact zW bk x m w h
theorem Df {bk:List (List Nat×Sh)} {x:List Nat}:∀ {m:Nat} {r:List Nat},lb bk x m r=true->r∈bk.map (·.1)
 | m+1,r,h=>by
  rw [nZ,br] at h
  cases e:Y6 bk r with
  | none=>rw [e] at h;cases h
  | some s=>exact List.mem_map.mpr ⟨_,W0 e,rfl⟩
theorem Mi {bk:List (List Nat×Sh)} {x:List Nat}:∀ (m:Nat) (r:List Nat),lb bk x (m+1) r=true->lb bk x m r=false->∃ l:List (List Nat),l.length=m+1/\l.Nodup/\∀ y∈l,lb bk x (m+1) y=true
 | 0,r,h,_=>⟨[r],rfl,by simp,fun y hy=>by simp at hy;rw [hy];exact h⟩
 | m+1,r,h,h'=>by
  have hr:=h;rw [nZ] at h h'
  cases e:br bk r with
  | none=>rw [e] at h;cases h
  | some w =>
   rw [e] at h h'
   have h:(if w=x then true else lb bk x (m+1) w)=true:=h;have h':(if w=x then true else lb bk x m w)=false:=h';by_cases c:w=x
   ·rw [if_pos c] at h';cases h'
   ·rw [if_neg c] at h h'
    obtain ⟨l,h1,h2,h3⟩:=Mi m w h h';refine ⟨r::l,by rw [List.length_cons,h1],List.nodup_cons.mpr ⟨fun z=>?_,h2⟩,fun y hy=>?_⟩
    ·have z1:=h3 r z
     have z2:lb bk x (m+1) r=false:=by rw [nZ,e];show (if w=x then true else lb bk x m w)=false;rw [if_neg c];exact h'
     rw [z1] at z2;cases z2
    ·rcases List.mem_cons.mp hy with rfl | hy
     ·exact hr
     ·exact zW bk x _ y (h3 y hy)
theorem Mj {α:Type} [DecidableEq α]:∀ {l l':List α},l.Nodup->(∀ x∈l,x∈l')->l.length<=l'.length
 | [],_,_,_=>Nat.zero_le _
 | a::l,l',hn,h=>by
  have ha:=h a (.head _);rw [List.nodup_cons] at hn
  have:=Mj (l:=l) (l':=l'.erase a) hn.2 fun x hx=>by
   have hne:x≠a:=fun z=>hn.1 (z▸hx)
   exact (List.mem_erase_of_ne hne).mpr (h x (.tail _ hx))
  rw [List.length_erase_of_mem ha] at this
  have:=List.length_pos_of_mem ha;rw [List.length_cons];omega
theorem Yhy (bk:List (List Nat×Sh)) (x r:List Nat):lb bk x (bk.length+1) r=lb bk x bk.length r:=by
 cases e:lb bk x bk.length r with
 | true=>exact zW bk x _ r e
 | false =>
  cases e':lb bk x (bk.length+1) r with
  | false=>rfl
  | true =>
   obtain ⟨l,h1,h2,h3⟩:=Mi _ _ e' e;have:=Mj h2 (l':=bk.map (·.1)) fun y hy=>Df (h3 y hy)
   rw [List.length_map] at this
   omega
def XC (bk:List (List Nat×Sh)):List (List Nat):=(bk.map (·.1)).filter fun x=>decide (eV bk x bk.length (br bk x)=some x)
theorem YfZ (bk:List (List Nat×Sh)):XC bk=XE bk:=by
 unfold XC XE;rw [List.filter_map]
 congr 1
 refine List.filter_congr fun p _=>?_
 show decide (eV bk p.1 bk.length (br bk p.1)=some p.1)=lb bk p.1 bk.length p.1
 rw [<- Yhy]
 cases e:lb bk p.1 (bk.length+1) p.1 with
 | true=>exact decide_eq_true ((zV bk p.1 _ _).mpr e)
 | false=>exact decide_eq_false fun z=>by rw [(zV bk p.1 _ _).mp z] at e;cases e
theorem XU (g x y:List Nat) (r:List (List Nat)):Yp g (x::y::r)=x++g++Yp g (y::r):=rfl
theorem Ml:∀ {xs:List (List Nat)},xs≠[]->Yp [10] (xs++[[]])=Yp [10] xs++[10]
 | [],h=>(h rfl).elim
 | [x],_=>by show x++[10]++[]=x++[10];rw [List.append_nil]
 | x::y::r,_=>by
  have ih:=Ml (xs:=y::r) (by simp)
  show Yp [10] (x::y::(r++[[]]))=_
  rw [XU,XU];have e:y::(r++[[]])=(y::r)++[[]]:=rfl;rw [e,ih];simp
def U8:List (List Nat)->List (List Nat)
 | []=>[]
 | [x]=>[x]
 | x::y::r=>x::[]::U8 (y::r)
theorem VE:∀ {xs:List (List Nat)} {z:List Nat},z∈U8 xs↔z∈xs\/(z=[]/\2<=xs.length)
 | [],z=>by simp [U8]
 | [x],z=>by simp [U8]
 | x::y::r,z=>by
  have ih:=VE (xs:=y::r) (z:=z);simp only [U8,List.mem_cons,List.length_cons] at ih ⊢;rw [ih];constructor
  ·rintro (h | h | (h | h) | h)
   ·exact .inl (.inl h)
   ·exact .inr ⟨h,by omega⟩
   ·exact .inl (.inr (.inl h))
   ·exact .inl (.inr (.inr h))
   ·exact .inr ⟨h.1,by omega⟩
  ·rintro ((h | h | h) | h)
   ·exact .inl h
   ·exact .inr (.inr (.inl (.inl h)))
   ·exact .inr (.inr (.inl (.inr h)))
   ·exact .inr (.inl h.1)
theorem Mp:∀ {xs:List (List Nat)},xs≠[]->(∀ r∈xs,10∉r)->spl (Yp [10,10] xs)=U8 xs
 | [],h,_=>(h rfl).elim
 | [x],_,h=>UJ (h x (.head _))
 | x::y::r,_,h=>by
  have e:Yp [10,10] (x::y::r)=x++10::10::Yp [10,10] (y::r):=by
   rw [XU,List.append_assoc];rfl
  rw [e,zL (h x (.head _)),spl,if_pos rfl,Mp (by simp) fun z hz=>h z (.tail _ hz)];rfl
theorem Dg (t:List Nat):Txt.replace (S t) (S [10]) (S [10,10])=S (Yp [10,10] (spl t)):=by
 have hs:=UK t;have e10:S [10]=(⟨#[10]⟩:Str):=rfl;rw [e10];have hk:decide (Builtin.Str.strKind (S t)<Builtin.Str.strKind ⟨#[10]⟩)=false:=by
  have:Builtin.Str.strKind ⟨#[10]⟩=1:=by decide +kernel
  rw [this];refine decide_eq_false ?_;unfold Builtin.Str.strKind
  split<;>(try split)<;>omega
 unfold Txt.replace;unfold Txt.split at hs;have hz:(((⟨#[10]⟩:Str).length==0)&&((S [10,10]).length==0))=false:=by decide
 rw [hz,Bool.or_false];rw [hk,Bool.or_false] at hs
 have one:spl t=[t]->S t=S (Yp [10,10] (spl t)):=fun e=>by rw [e];rfl
 by_cases hf:(Builtin.Str.occurrences (S t) ⟨#[10]⟩ 0 (S t).length ((S t).length+1)).isEmpty=true
 ·rw [if_pos hf]
  refine one ?_;have:(spl t).map S=[S t]:=by
   rw [<- hs]
   split
   ·rfl
   ·rfl
  rw [<- zM [S t]] at this
  have e2:spl t=[S t].map fun x=>x.cps.toList:=by
   have h3:∀ a b:List (List Nat),a.map S=b.map S->a=b:=fun a=>by
    induction a with
    | nil=>intro b h;cases b<;>simp at h ⊢
    | cons x a ih =>
     intro b h
     cases b with
     | nil=>simp at h
     | cons y b =>
      rw [List.map_cons,List.map_cons] at h
      injection h with h1 h2
      rw [Y8 h1,ih b h2]
   exact h3 _ _ this
  rw [e2];simp [YZ]
 ·rw [if_neg hf]
  have h0:¬ (decide ((S t).length<(⟨#[10]⟩:Str).length))=true:=fun z=>by
   have z:=of_decide_eq_true z;have l1:(⟨#[10]⟩:Str).length=1:=rfl;have l0:(S t).length=0:=by omega
   rw [Ys] at l0
   have:=List.length_eq_zero_iff.mp l0;subst this;exact hf (by decide +kernel)
  rw [if_neg h0,if_neg hf] at hs
  have e2:Txt.join (S [10,10]) ((spl t).map S)=Str.join (S [10,10]) ((spl t).map S):=eq_of_beq (PyProof.Rows.join_plain_closes _ _);rw [hs,StrLaws.glued_eq_join,<- e2,X9]
def fV:List Nat:=[61,122,122,61]
def ft (t:List Nat):List Nat:=if 61∈t then YQ t++(fV++aW t) else t
theorem Vh {t:List Nat} (h:61∈t):t=YQ t++61::aW t/\61∉YQ t:=by
 have h1:t.takeWhile (· != 61)++t.dropWhile (· != 61)=t:=List.takeWhile_append_dropWhile;have h2:61∉t.takeWhile (· != 61):=fun z=>by
  have:=List.all_eq_true.mp (List.all_takeWhile (l:=t) (p:=(· != 61))) 61 z;exact absurd this (by decide)
 refine ⟨?_,h2⟩
 cases e:t.dropWhile (· != 61) with
 | nil =>
  rw [e,List.append_nil] at h1
  rw [<- h1] at h
  exact (h2 h).elim
 | cons c r =>
  have hc:(c != 61)=false:=by
   have:=List.head?_dropWhile_not (· != 61) t;rw [e] at this
   simpa using this
  have hc:c=61:=by simpa using hc
  unfold YQ aW;rw [e,List.drop_one,List.tail_cons];rw [e,hc] at h1
  exact h1.symm
theorem qW (t:List Nat) (i:Nat):StrLaws.At (S t) (S [61]) (S t).length i↔t[i]?=some 61:=by
 unfold StrLaws.At;rw [StrLaws.subAt_eq,YZ,YZ,Ys,Ys];constructor
 ·rintro ⟨h1,h2⟩
  have h3:(t.drop i).take 1=[61]:=eq_of_beq h2;have h4:i<t.length:=by simp at h1;omega
  rw [List.drop_eq_getElem_cons h4] at h3
  have h6:[t[i]]=[61]:=h3
  injection h6 with h6
  rw [List.getElem?_eq_getElem h4,h6]
 ·intro h
  obtain ⟨h4,h5⟩:=List.getElem?_eq_some_iff.mp h;refine ⟨by simp;omega,?_⟩;rw [List.drop_eq_getElem_cons h4,h5];simp
theorem QH (t:List Nat) (i j:Nat):Builtin.Str.strSub (S t) i j=S ((t.drop i).take (j - i)):=by
 have h:=StrLaws.strSub_toList (S t) i j;rw [YZ] at h
 rw [<- h];unfold S;simp
theorem Dh (t:List Nat):pI (S t) (S [61]) (S fV)=S (ft t):=by
 unfold pI ft;have hz:(((S [61]).length==0)&&((S fV).length==0))=false:=by decide +kernel
 rw [hz,Bool.or_false];rcases StrLaws.occ_head (S t) (S [61]) 1 (Nat.le_refl 1) with ⟨h0,hn⟩ | ⟨i,r,h0,hi,hn⟩
 ·rw [h0,if_pos List.isEmpty_nil,if_neg]
  intro z;obtain ⟨i,hi⟩:=List.mem_iff_getElem?.mp z;exact hn i ((qW t i).mpr hi)
 ·have hl:=StrLaws.occ_length_le (S t) (S [61]) 0 (S t).length 1
  rw [h0] at hl
  have hr:r=[]:=by cases r with
   | nil=>rfl
   | cons a b=>simp at hl
  subst hr;have hi:=(qW t i).mp hi;have hm:61∈t:=List.mem_of_getElem? hi;rw [h0,if_neg (by simp),if_pos hm];obtain ⟨e,hf⟩:=Vh hm;have il:i=(YQ t).length:=by
   by_cases c:i<(YQ t).length
   ·rw [e,List.getElem?_append_left c] at hi
    exact (hf (List.mem_of_getElem? hi)).elim
   ·by_cases c':(YQ t).length<i
    ·refine (hn _ c' ((qW t _).mpr ?_)).elim
     have:(YQ t++61::aW t)[(YQ t).length]?=some 61:=by rw [List.getElem?_append_right (Nat.le_refl _),Nat.sub_self];rfl
     rwa [<- e] at this
    ·omega
  have lt:t.length=(YQ t).length+1+(aW t).length:=by
   have:=congrArg List.length e;rw [List.length_append,List.length_cons] at this
   omega
  rw [StrLaws.partsBetween_eq]
  show Builtin.Str.glued (S fV) [Builtin.Str.strSub (S t) 0 i,Builtin.Str.strSub (S t) (i+1) (S t).length]=_
  rw [QH,QH,Ys];have e1:(t.drop 0).take (i - 0)=YQ t:=by
   rw [List.drop_zero,Nat.sub_zero,il];have:(YQ t++61::aW t).take (YQ t).length=YQ t:=List.take_left ..
   rwa [<- e] at this
  have e2:(t.drop (i+1)).take (t.length - (i+1))=aW t:=by
   have h1:t.drop (i+1)=aW t:=by
    rw [il];have:(YQ t++61::aW t).drop ((YQ t).length+1)=aW t:=by
     rw [<- List.drop_drop,List.drop_left];rfl
    rwa [<- e] at this
   rw [h1,List.take_of_length_le (by omega)]
  rw [e1,e2,StrLaws.glued_eq_join];have e3:Txt.join (S fV) ([YQ t,aW t].map S)=Str.join (S fV) ([YQ t,aW t].map S):=eq_of_beq (PyProof.Rows.join_plain_closes _ _);have e4:Str.join (S fV) [S (YQ t),S (aW t)]=Txt.join (S fV) ([YQ t,aW t].map S):=e3.symm;rw [e4,X9]
  show S (YQ t++fV++aW t)=_
  rw [List.append_assoc]
theorem Yhz (c:List Nat):WQ (122::122::61::c)=none:=by
 have:Rd.parse (122::122::61::c)=none:=by
  unfold Rd.parse Rd.fU Rd.pL;have e1:(122::122::61::c).dropWhile Rd.aG=61::c:=rfl;have e2:(122::122::61::c).takeWhile Rd.aG=[122,122]:=rfl;rw [e1,e2];rfl
 rw [WQ,this]
def rp:List (List Nat)->List (List Nat)
 | []=>[]
 | r::rs=>if 61∈r then (YQ r++(fV++aW r))::rs else r::rp rs
theorem Di {y:List Nat} {r:List (List Nat)}:∃ z q,rp (y::r)=z::q:=by
 rw [rp]
 split
 ·exact ⟨_,_,rfl⟩
 ·exact ⟨_,_,rfl⟩
theorem Mq {a b:List Nat} (h:61∉a):ft (a++61::b)=a++(fV++b):=by
 rw [ft,if_pos (by simp),U4 h,WZ h]
theorem Yiv {a b:List Nat} (h:61∉a):ft (a++b)=a++ft b:=by
 by_cases c:61∈b
 ·obtain ⟨e,hf⟩:=Vh c
  have e2:a++b=(a++YQ b)++61::aW b:=by rw [List.append_assoc,<- e]
  rw [e2,Mq fun z=>(List.mem_append.mp z).elim h hf,ft,if_pos c,List.append_assoc]
 ·have c':61∉a++b:=fun z=>(List.mem_append.mp z).elim h c
  rw [ft,if_neg c',ft,if_neg c]
theorem Mr:∀ rs:List (List Nat),ft (Yp [10] rs)=Yp [10] (rp rs)
 | []=>rfl
 | [r]=>by
  show ft r=Yp [10] (if 61∈r then _ else _)
  rw [ft]
  split
  ·rfl
  ·rfl
 | r::y::rs=>by
  rw [XU,rp];by_cases c:61∈r
  ·obtain ⟨e,hf⟩:=Vh c
   rw [if_pos c,XU];have e2:r++[10]++Yp [10] (y::rs)=YQ r++61::(aW r++[10]++Yp [10] (y::rs)):=by
    have:(YQ r++61::aW r)++[10]++Yp [10] (y::rs)=YQ r++61::(aW r++[10]++Yp [10] (y::rs)):=by simp
    rwa [<- e] at this
   rw [e2,Mq hf];simp
  ·rw [if_neg c]
   obtain ⟨z,q,e⟩:=Di (y:=y) (r:=rs);have ih:=Mr (y::rs);rw [Yiv (fun w=>by rcases List.mem_append.mp w with w | w;exact c w;simp at w),ih,e,XU]
theorem Ms:∀ rs:List (List Nat),(rp rs).length=rs.length
 | []=>rfl
 | r::rs=>by
  rw [rp]
  split
  ·rfl
  ·rw [List.length_cons,Ms rs,List.length_cons]
theorem Mt:∀ {rs:List (List Nat)} {z:List Nat},z∈rp rs->z∈rs\/∃ r∈rs,61∈r/\z=YQ r++(fV++aW r)
 | r::rs,z,h=>by
  rw [rp] at h
  split at h
  ·rename_i c
   rcases List.mem_cons.mp h with rfl | h
   ·exact .inr ⟨r,.head _,c,rfl⟩
   ·exact .inl (.tail _ h)
  ·rcases List.mem_cons.mp h with rfl | h
   ·exact .inl (.head _)
   ·rcases Mt h with h | ⟨q,hq,e⟩
    ·exact .inl (.tail _ h)
    ·exact .inr ⟨q,.tail _ hq,e⟩
theorem Mu {P:List Nat->Prop} (hP:∀ r,61∈r->r.length<=1700->(P r↔P (YQ r++(fV++aW r)))):∀ {rs:List (List Nat)},(∀ r∈rs,r.length<=1700)->((∀ r∈rp rs,P r)↔∀ r∈rs,P r)
 | [],_=>Iff.rfl
 | r::rs,hl=>by
  rw [rp]
  split
  ·rename_i c
   simp only [List.forall_mem_cons];rw [<- hP r c (hl r (.head _))]
  ·simp only [List.forall_mem_cons]
   rw [Mu hP fun z hz=>hl z (.tail _ hz)]
theorem Mv:∀ {rs:List (List Nat)},(∃ r∈rs,61∈r)->∃ r∈rs,61∈r/\YQ r++(fV++aW r)∈rp rs
 | r::rs,h=>by
  rw [rp];by_cases c:61∈r
  ·rw [if_pos c]
   exact ⟨r,.head _,c,.head _⟩
  ·rw [if_neg c]
   obtain ⟨q,hq,hc⟩:=h;rcases List.mem_cons.mp hq with rfl | hq
   ·exact (c hc).elim
   ·obtain ⟨q',h1,h2,h3⟩:=Mv ⟨q,hq,hc⟩
    exact ⟨q',.tail _ h1,h2,.tail _ h3⟩
theorem zX {a b:List Nat}:a++(fV++b)=a++61::(122::122::61::b):=rfl
theorem Yf0 (r:List Nat) (h:61∈r) (hl:r.length<=1700):XG r↔XG (YQ r++(fV++aW r)):=by
 obtain ⟨_,hf⟩:=Vh h;unfold XG;rw [zX,WZ hf];have:=zJ r;have e:Rd.bG 0 (122::122::61::aW r)↔Rd.bG 0 (aW r):=by simp [Rd.bG,Rd.aP]
 rw [e];simp only [List.length_cons];constructor
 ·exact fun h=>⟨by omega,h.2⟩
 ·exact fun h=>⟨by omega,h.2⟩
theorem Yiw (r:List Nat) (h:61∈r):eU (YQ r++(fV++aW r))=none:=by
 obtain ⟨_,hf⟩:=Vh h;rw [zX,eU]
 split
 ·rw [WZ hf,Yhz];rfl
 ·rfl
theorem VF:XG []:=⟨by decide,trivial⟩
theorem U9:eU []=none:=by rw [eU,if_neg];exact fun z=>by cases z.1
structure lZ (ws:List Nat) (t:List Nat):Prop where
 cr:Xw (spl t)↔(spl t).length<=8/\7∉ws
 no:dI (spl t)=none
 len:t.length<=50000
section
 variable {ls:List (List Nat)} {fi:List Nat} {its:List jk} (o:j5 ls fi its)
 include o
theorem Yf1:lZ (d7 its) (Yp [10] (Yy fi its)++[10]):=by
 have e:spl (Yp [10] (Yy fi its)++[10])=Yy fi its++[[]]:=by
  rw [<- Ml (QS o)];refine Vw (by simp) fun r hr=>?_
  rcases List.mem_append.mp hr with hr | hr
  ·exact QT o r hr
  ·simp at hr;rw [hr];simp
 refine ⟨?_,by rw [e];exact X4 (r:=[]) (by simp) U9,by have:=(W2 o).1;rw [List.length_append];simp;omega⟩;rw [e];unfold Xw;rw [<- UN o];refine and_congr_right fun _=>⟨fun h r hr=>h r (List.mem_append.mpr (.inl hr)),fun h r hr=>?_⟩
 rcases List.mem_append.mp hr with hr | hr
 ·exact h r hr
 ·simp at hr;rw [hr];exact VF
theorem Yd9:lZ (d7 its) (10::Yp [10] (Yy fi its)):=by
 have e:spl (10::Yp [10] (Yy fi its))=[]::Yy fi its:=by rw [spl,if_pos rfl,QU o]
 refine ⟨?_,by rw [e];exact X4 (r:=[]) (.head _) U9,by have:=(W2 o).1;rw [List.length_cons];omega⟩;rw [e];unfold Xw;rw [<- UN o];refine and_congr_right fun _=>⟨fun h r hr=>h r (.tail _ hr),fun h r hr=>?_⟩
 rcases List.mem_cons.mp hr with rfl | hr
 ·exact VF
 ·exact h r hr
theorem Yf2 (h2:2<=its.length):lZ (d7 its) (Yp [10,10] (spl (Yp [10] (Yy fi its)))):=by
 rw [QU o];have e:=Mp (QS o) (QT o);have hl2:2<=(Yy fi its).length:=by rw [Yy,List.length_map];exact h2
 refine ⟨?_,by rw [e];exact X4 (r:=[]) (VE.mpr (.inr ⟨rfl,hl2⟩)) U9,?_⟩
 ·rw [e]
  unfold Xw;rw [<- UN o];refine and_congr_right fun _=>⟨fun h r hr=>h r (VE.mpr (.inl hr)),fun h r hr=>?_⟩
  rcases VE.mp hr with hr | hr
  ·exact h r hr
  ·rw [hr.1];exact VF
 ·have key:∀ xs:List (List Nat),(Yp [10,10] xs).length<=(xs.map List.length).sum+2*xs.length:=fun xs=>by
   induction xs with
   | nil=>simp [Yp]
   | cons x r ih =>
    cases r with
    | nil=>simp [Yp]
    | cons y r =>
     rw [XU];simp only [List.length_append,List.map_cons,List.sum_cons,List.length_cons,List.length_nil] at ih ⊢;omega
  have h3:=WS (W2 o).2;have h4:(Yy fi its).length=its.length:=List.length_map ..;have h5:=o.l9;have h6:=key (Yy fi its);omega
theorem YhA (h:61∈Yp [10] (Yy fi its)):lZ (d7 its) (ft (Yp [10] (Yy fi its))):=by
 have hex:∃ r∈Yy fi its,61∈r:=by
  have key:∀ xs:List (List Nat),61∈Yp [10] xs->∃ r∈xs,61∈r:=fun xs=>by
   induction xs with
   | nil=>intro z;simp [Yp] at z
   | cons x r ih =>
    cases r with
    | nil=>intro z;exact ⟨x,.head _,z⟩
    | cons y r =>
     intro z;rw [XU] at z
     rcases List.mem_append.mp z with z | z
     ·rcases List.mem_append.mp z with z | z
      ·exact ⟨x,.head _,z⟩
      ·simp at z
     ·obtain ⟨q,hq,hc⟩:=ih z
      exact ⟨q,.tail _ hq,hc⟩
  exact key _ h
 have e:spl (ft (Yp [10] (Yy fi its)))=rp (Yy fi its):=by
  rw [Mr];refine Vw (fun z=>QS o (List.length_eq_zero_iff.mp (by rw [<- Ms,z];rfl))) fun r hr=>?_
  rcases Mt hr with hr | ⟨q,hq,hc,rfl⟩
  ·exact QT o r hr
  ·have n:=QT o q hq
   obtain ⟨e,_⟩:=Vh hc;rw [e] at n
   intro z;rw [zX] at z
   refine n ?_;rcases List.mem_append.mp z with z | z
   ·exact List.mem_append.mpr (.inl z)
   ·simp at z
    exact List.mem_append.mpr (.inr (.tail _ z))
 refine ⟨?_,?_,?_⟩
 ·rw [e]
  unfold Xw;rw [Mu Yf0 (W2 o).2,UN o]
 ·rw [e]
  obtain ⟨r,_,hc,hm⟩:=Mv hex;exact X4 hm (Yiw r hc)
 ·obtain ⟨e,_⟩:=Vh h
  have h1:=(W2 o).1;have h2:=congrArg List.length e;rw [List.length_append,List.length_cons] at h2
  rw [ft,if_pos h,List.length_append,List.length_append];have:fV.length=4:=rfl;omega
end
theorem Mw (ws:List Nat) (h:7∉ws\/True):Xw (spl [])/\dI (spl [])=none:=by
 refine ⟨⟨by decide,fun r hr=>?_⟩,X4 (r:=[]) (by simp [spl]) U9⟩;simp [spl] at hr;rw [hr];exact VF
def n8 (ls:List (List Nat)):Prop:=1<=ls.length/\ls.length<=9/\(∀ l∈ls,Rd.aJ l=true/\l.length<=2)/\ls.Nodup
theorem YR (x y:Str):(x++y).length=x.length+y.length:=by
 show (x.cps++y.cps).size=_
 rw [Array.size_append];rfl
theorem Xi (xs:List (List Nat)):(aF xs).length=xs.length:=by rw [aF,List.length_map]
theorem Wb {xs:List (List Nat)} {i:Nat} {x:List Nat} (h:xs[i]?=some x):(aF xs)[i]?=some (.str (S x)):=by rw [aF,List.getElem?_map,h];rfl
theorem Mx {K:PySem.W.Frag} {H:Hp}:∀ xs:List (List Nat),(∀ x∈xs,PyData.strOk (S x)=true)->gD K H (aF xs) (xs.map fun x=>PyData.str (S x))
 | [],_ => .nil
 | x::xs,h => .cons (.str _ (h x (.head _))) (Mx xs fun z hz=>h z (.tail _ hz))
theorem X5 {K:PySem.W.Frag} {H:Hp} {b:Addr} {xs:List (List Nat)} (h:H b=some (.lst (aF xs))) (ho:∀ x∈xs,PyData.strOk (S x)=true):Den K H (.ref b) (.list (xs.map fun x=>PyData.str (S x))) := .lst (au.of h) (Mx xs ho)
theorem Mz:∀ (xs ys:List (List Nat)),PyData.eqvAll (xs.map fun x=>PyData.str (S x)) (ys.map fun x=>PyData.str (S x))=decide (xs=ys)
 | [],[]=>rfl
 | [],y::ys=>by simp [PyData.eqvAll]
 | x::xs,[]=>by simp [PyData.eqvAll]
 | x::xs,y::ys=>by
  rw [List.map_cons,List.map_cons,PyData.eqvAll,Mz xs ys];have e:PyData.eqv (.str (S x)) (.str (S y))=decide (x=y):=by
   simp only [PyData.eqv];by_cases c:x=y
   ·subst c;simp
   ·have:S x≠S y:=fun z=>c (Y8 z)
    simp [c,this]
  rw [e];by_cases c:x=y<;>by_cases c':xs=ys<;>simp [c,c']
theorem Ug (xs ys:List (List Nat)):PyData.eqv (.list (xs.map fun x=>PyData.str (S x))) (.list (ys.map fun x=>PyData.str (S x)))=decide (xs=ys):=by rw [PyData.eqv];exact Mz xs ys
theorem Uh:∀ xs:List (List Nat),(PyData.list (xs.map fun x=>PyData.str (S x))).depth<=64:=fun xs=>by
 have key:∀ ys:List (List Nat),PyData.depthAll (ys.map fun x=>PyData.str (S x))<=1:=fun ys=>by
  induction ys with
  | nil=>simp [PyData.depthAll]
  | cons y r ih=>simp only [List.map_cons,PyData.depthAll,PyData.depth];omega
 have:=key xs;simp only [PyData.depth];omega
theorem Pj {i j:Int} (h:Gd (.whole i j)):Str.ofString "whole("++S (dg i)++Str.ofString ","++S (dg j)++Str.ofString ")"=S (tt (.whole i j)):=by
 have e1:Str.ofString "whole("=S (mc .whole++[40]):=by decide +kernel
 rw [WB h (by simp),e1,lU,lR,YE,YE,YE,YE];simp [kd,aN,Yp]
theorem Ge {m:Mk} {w:List Nat} (h:Gd (.one m (.use w))):ms m++Str.ofString "("++S w++Str.ofString ")"=S (tt (.one m (.use w))):=by
 rw [WB h (by simp),UG,lR,XS,YE,YE,YE];simp [kd,aN,Yp,Vu]
def MF (K:PySem.W.Frag):Sp:=fun vs H Q _=>∃ (c:Nat) (N:Addr) (ls:List (List Nat)),vs=[.int (c:Nat),.ref N]/\H N=some (.lst (aF ls))/\n8 ls/\∀ s H',Same H H'->B7 ls 1 140 s->Q (.str (S (tt s))) H'
theorem YcO  (R:g.Raw "_law_part" "_law_part" yg ["_law_cell","_law_names"]) (aA:g.mg "len"=none) (aU:g.mg "str"=none):g.Fn (1) "_law_part" ["_law_cell","_law_names"] (MF g.K):=by
 refine R.fn Ie (fun vs H Q E h=>by obtain ⟨c,N,ls,rfl,hN,hn,q⟩:=h;rfl) fun f_ cdv A outer s H vs Q E hr h=>?_
 obtain ⟨c,N,ls,rfl,hN,hn,q⟩:=h;refine ⟨_,(@Yc _ _ _ _ _ (@YB _ _ (2) _ _ _ _ Ie.nd rfl (.inl rfl) (@Yr _ _ _ _ _ _ _ Xg (pv 1) (@Ym _ _ _ _ _ _ _ _ Y2 (@Ym _ _ _ _ _ _ _ _ X3 (pv 0) Ye) (@YJ _ _ _ _ _ _ _ _ _ _ aA YN (@Ya _ _ _ _ _ (pv 1) Yb (by rfl)) (by decide +kernel) (by rfl) (by rfl) (by decide) (by decide) (by rfl) (by rfl))) (fun _ _=>rfl)) (by rfl) (by first | exact .inl rfl | exact .inr rfl | assumption)) (@Yc _ _ _ _ _ (@Yo _ _ _ _ _ _ _ _ (@Yk _ _ _ _ _ _ _ _ YG (@Ym _ _ _ _ _ _ _ _ Y2 (pv 0) Ye) Ye (Yl _)) (@Yd _ _ _ (@Yj _ _ _ _ (@Ym _ _ _ _ _ _ _ _ Yn (@Ym _ _ _ _ _ _ _ _ Yn (@Ym _ _ _ _ _ _ _ _ Yn (@Ym _ _ _ _ _ _ _ _ Yn Yg (@XZ _ _ _ _ _ _ _ _ _ _ aU X1 (@Ya _ _ _ _ _ (@Ym _ _ _ _ _ _ _ _ RD (@Ym _ _ _ _ _ _ _ _ Y2 (pv 0) (@Ym _ _ _ _ _ _ _ _ Us Ye Ye)) (@Ym _ _ _ _ _ _ _ _ Us Ye Ye)) Yb (by rfl)) (by decide +kernel) (by rfl) (by rfl) (by decide) (by decide) (by rfl) (by rfl))) Yg) (@XZ _ _ _ _ _ _ _ _ _ _ aU X1 (@Ya _ _ _ _ _ (@Ym _ _ _ _ _ _ _ _ Y2 (pv 0) (@Ym _ _ _ _ _ _ _ _ Us Ye Ye)) Yb (by rfl)) (by decide +kernel) (by rfl) (by rfl) (by decide) (by decide) (by rfl) (by rfl))) Yg))) Yi) (@Yc _ _ _ _ _ (@Yo _ _ _ _ _ _ _ _ (@Yk _ _ _ _ _ _ _ _ YG (@Ym _ _ _ _ _ _ _ _ Y2 (pv 0) Ye) Ye (Yl _)) (@Yd _ _ _ (@Yj _ _ _ _ (@Ym _ _ _ _ _ _ _ _ Yn (@Ym _ _ _ _ _ _ _ _ Yn (@Ym _ _ _ _ _ _ _ _ Yn (@Yr _ _ _ _ _ _ _ Xg (@Xb _ _ _ _ (@Ya _ _ _ _ _ Yg (@Ya _ _ _ _ _ Yg (@Ya _ _ _ _ _ Yg Yb (by rfl)) (by rfl)) (by rfl))) (@Ym _ _ _ _ _ _ _ _ Y2 (@Ym _ _ _ _ _ _ _ _ X3 (pv 0) Ye) Ye) (fun _ _=>rfl)) Yg) (pv 2)) Yg))) Yi) (@Yd _ _ _ (@Yj _ _ _ _ (pv 2)))))),?_⟩;obtain ⟨n1,n9,nl,nd⟩:=hn;obtain ⟨i,hi,hi2⟩:=Xy ((c:Int) / 5) (j:=(ls.length:Int)) (by omega);have hil:i<ls.length:=by omega
 have hA:ls[i]?=some ls[i]:=List.getElem?_eq_getElem hil;have hm:=List.getElem_mem hil;generalize ls[i]=A at hA hm;obtain ⟨la,lb2⟩:=nl A hm;have lS:=Ys A;walk_at "rd";refine ⟨XN (by decide) (by decide),_,.inl (au.of hN),by rw [Xi];omega,_,au.of hN,_,by rw [Xi,hi];exact Yz (Wb hA),by decide,?_⟩;refine Yw (fun z=>?_) fun z=>⟨by decide,Yw (fun z=>?_) fun z=>?_⟩
 ·have pO:(c:Int)%10^Int.toNat 40=((c%10^40:Nat):Int):=by
   have:(10:Int)^Int.toNat 40=((10^40:Nat):Int):=by decide +kernel
   rw [this,Int.natCast_emod]
  have e39:(10:Int)^Int.toNat 39=((10^39:Nat):Int):=by decide +kernel
  have hx:c%10^40<10^40:=Nat.mod_lt _ (by decide);rw [pO,e39];generalize c%10^40=x at hx;have hb1:(((x:Nat):Int) - ((10^39:Nat):Int)).natAbs<10^60:=by
   have:(10:Nat)^40<10^60:=by decide
   have:(10:Nat)^39<10^60:=by decide
   generalize (10:Nat)^60=M at *;generalize (10:Nat)^40=M1 at *;generalize (10:Nat)^39=M2 at *;omega
  have hb2:(((x:Nat):Int)).natAbs<10^60:=by
   have:(10:Nat)^40<10^60:=by decide
   generalize (10:Nat)^60=M at *;generalize (10:Nat)^40=M1 at *;omega
  have hle:((x:Nat):Int) - ((10^39:Nat):Int)<=((x:Nat):Int):=by omega
  generalize ((x:Nat):Int) - ((10^39:Nat):Int)=lo at *;generalize ((x:Nat):Int)=hi at *;have l1:=QO hb1;have l2:=QO hb2;have e6:(Str.ofString "whole(").length=6:=by decide
  have e1:(Str.ofString ",").length=1:=by decide
  have e1':(Str.ofString ")").length=1:=by decide
  have f:=q _ H (.refl _) (YfY hb1 hb2 hle);rw [<- Pj ⟨hb1,hb2⟩] at f
  rw [Uy,Uy];refine ⟨pN,by decide,pN,VV hb1,few ?_,few ?_,pN,by decide,VV hb2,few ?_,few ?_,f⟩
  all_goals (simp only [YR,Ys,e6,e1,e1'];omega)
 ·refine ⟨few (by decide),fun p hp=>⟨XN (by decide) (by decide),by decide,?_⟩⟩
  obtain ⟨j,hj,hj2⟩:=Xy ((c:Int) / 5) (j:=3) (by decide);rw [hj];have key:∃ m:Mk,is1 m/\iC [V.str (ms .many),V.str (ms .rising),V.str (ms .unlike)] (j:Int)=some (.str (ms m)):=by
   match j,hj2 with
   | 0,_=>exact ⟨.many,.inl rfl,rfl⟩
   | 1,_=>exact ⟨.rising,.inr (.inl rfl),rfl⟩
   | 2,_=>exact ⟨.unlike,.inr (.inr rfl),rfl⟩
   | j+3,h=>omega
  obtain ⟨m,hm1,hat⟩:=key;have f:=q _ _ (Same.ao hp (.lst [V.str (ms .many),V.str (ms .rising),V.str (ms .unlike)])) (Yik hm1 hm la);rw [<- Ge ⟨hm1,la⟩] at f
  have e1:(Str.ofString "(").length=1:=by decide
  have e1':(Str.ofString ")").length=1:=by decide
  have em:(ms m).length<=6:=by rw [XS,Ys];exact (Wa m).2
  refine ⟨_,au.of Yf,_,hat,_,rfl,few ?_,_,rfl,few ?_,few ?_,f⟩
  all_goals (simp only [YR,Ys,e1,e1'];omega)
 ·have f:=q _ H (.refl _) (Yij hm la)
  rw [Vu] at f
  exact f
def MJ (K:PySem.W.Frag):Sp:=fun vs H Q _=>∃ (P:Addr) (ps:List Sh) (k:Nat) (ls:List (List Nat)),vs=[.ref P,.int (k:Nat)]/\H P=some (.lst (aF (ps.map tt)))/\ps.length<=12/\(∀ p∈ps,B7 ls 1 140 p)/\∀ H',Same H H'->Q (.str (S (tt (qb ps k)))) H'
theorem Dj {ks:aH} (h:Gd (.row ks)):Str.ofString "row("++S (Yp [44] (aN (.row ks)))++Str.ofString ")"=S (tt (.row ks)):=by
 have e1:Str.ofString "row("=S (mc .row++[40]):=by decide +kernel
 rw [WB h (by simp),e1,lR,YE,YE];simp [kd]
theorem Yix {ks:aH} (h:Gd (.pick ks)):Str.ofString "pick("++S (Yp [44] (aN (.pick ks)))++Str.ofString ")"=S (tt (.pick ks)):=by
 have e1:Str.ofString "pick("=S (mc .pick++[40]):=by decide +kernel
 rw [WB h (by simp),e1,lR,YE,YE];simp [kd]
theorem MK {xs:List (List Nat)} (h:∀ x∈xs,x.length<=143) (hl:xs.length<=12):((xs.map S).map (·.length)).sum+(xs.map S).length*(Str.ofString ",").length<=16777216/\(Yp [44] xs).length<=2000:=by
 have h1:=WS h;have h2:=Ue 44 xs;have e:(xs.map S).map (·.length)=xs.map List.length:=by rw [List.map_map];exact List.map_congr_left fun x _=>Ys x
 have e1:(Str.ofString ",").length=1:=by decide
 rw [e,e1,List.length_map];exact ⟨by omega,by omega⟩
theorem MN:∀ (ps:List Sh) (j i:Nat),(kq j ps).list[i]?=(ps[i]?).map fun s=>([97+(j+i)],s)
 | [],_,_=>rfl
 | s::r,j,0=>rfl
 | s::r,j,i+1=>by
  show (kq (j+1) r).list[i]?=_
  rw [MN r (j+1) i,Nat.add_assoc,Nat.add_comm 1 i];rfl
theorem YhB:S (tt (.row .nil))=Str.ofString "row()":=by decide +kernel
theorem Pk {i:Nat} (h:i<10):iC (Str.ofString "abcdefghij").cps.toList (i:Int)=some (97+i):=by
 have:∀ i:Fin 10,iC (Str.ofString "abcdefghij").cps.toList (i.val:Int)=some (97+i.val):=by decide +kernel
 exact this ⟨i,h⟩
theorem QV (c:Nat):(⟨#[c]⟩:Str)=S [c]:=rfl
theorem Ycz  (R:g.Raw "_law_shape" "_law_shape" yh ["_law_parts","_law_k"]) (aA:g.mg "len"=none) (jQ:g.mg "min"=none) (Zv:g.mg "range"=none):g.Fn (1) "_law_shape" ["_law_parts","_law_k"] (MJ g.K):=by
 refine R.fn YbR (fun vs H Q E h=>by obtain ⟨P,ps,k,ls,rfl,hP,hl,hb,q⟩:=h;rfl) fun f_ cdv A outer s H vs Q E hr h=>?_
 obtain ⟨P,ps,k,ls,rfl,hP,hl,hb,q⟩:=h;refine ⟨_,(@Yc _ _ _ _ _ (@Yo _ _ _ _ _ _ _ _ (@Yk _ _ _ _ _ _ _ _ (vQ hr.units) (pv 0) (@Xb _ _ _ _ Yb) (Yl _)) (@Yd _ _ _ (@Yj _ _ _ _ Yg)) Yi) (@Yc _ _ _ _ _ (@Yo _ _ _ _ _ _ _ _ (@Yk _ _ _ _ _ _ _ _ YG (@YJ _ _ _ _ _ _ _ _ _ _ aA YN (@Ya _ _ _ _ _ (pv 0) Yb (by rfl)) (by decide +kernel) (by rfl) (by rfl) (by decide) (by decide) (by rfl) (by rfl)) Ye (Yl _)) (@Yd _ _ _ (@Yj _ _ _ _ (@Yr _ _ _ _ _ _ _ Xg (pv 0) Ye (fun _ _=>rfl)))) Yi) (@Yc _ _ _ _ _ (@Yo _ _ _ _ _ _ _ _ (@Yk _ _ _ _ _ _ _ _ YG (@Ym _ _ _ _ _ _ _ _ Y2 (pv 1) Ye) Ye (Yl _)) (@Yd _ _ _ (@Yj _ _ _ _ (@Ym _ _ _ _ _ _ _ _ Yn (@Ym _ _ _ _ _ _ _ _ Yn Yg (@XF _ _ _ _ _ _ _ _ _ _ _ _ PySem.F.plainAttrs_str PySem.F.slot_str_join PySem.F.type_str_join VS Yg (@Ya _ _ _ _ _ (@Vl _ _ _ _ _ _ _ _ _ _ Ez (pv 0) QZ (@WH _ _ _ Ye)) Yb (by rfl)) (by rfl) (by rfl) (by rfl) (by rfl) (by rfl))) Yg))) Yi) (@Yd _ _ _ (@Yj _ _ _ _ (@Ym _ _ _ _ _ _ _ _ Yn (@Ym _ _ _ _ _ _ _ _ Yn Yg (@XF _ _ _ _ _ _ _ _ _ _ _ _ PySem.F.plainAttrs_str PySem.F.slot_str_join PySem.F.type_str_join VS Yg (@Ya _ _ _ _ _ (@XQ _ _ _ _ _ _ _ ([none,some 0]) ((["_law_j","_law_parts"]:List Str)) _ (YD 0) _ _ (.own (.cap (i:=0) rfl rfl (by first | exact .inl rfl | exact .inr rfl) .nil)) rfl (@XD _ _ _ _ _ _ rfl Zv (@Ya _ _ _ _ _ (@YJ _ _ _ _ _ _ _ _ _ _ jQ (RG rfl) (@Ya _ _ _ _ _ Ye (@Ya _ _ _ _ _ (@YJ _ _ _ _ _ _ _ _ _ _ aA YN (@Ya _ _ _ _ _ (pv 0) Yb (by rfl)) (by decide +kernel) (by rfl) (by rfl) (by decide) (by decide) (by rfl) (by rfl)) Yb (by rfl)) (by rfl)) (by decide +kernel) (by rfl) (by rfl) (by decide) (by decide) (by rfl) (by rfl)) Yb (by rfl)) (by rfl)) (fun cl C s₀ H₀ fp pn=>(@Yv _ _ (0) _ (show List.Nodup (["_law_j","_law_parts"]:List Str) by decide +kernel) rfl (.inl rfl) (.inr rfl))) (fun cl C s₀ H₀ fp pn=>Y4) (fun cl C s₀ H₀ fp pn=>(@Ym _ _ _ _ _ _ _ _ Yn (@Ym _ _ _ _ _ _ _ _ Yn (@Yr _ _ _ _ _ _ _ vp Yg (pv 0) (fun _ _=>rfl)) Yg) (@Yr _ _ _ _ _ _ _ (WL (K:=g.K)) (pv 1) (pv 0) (fun _ _=>rfl)))) (by intro x hx;simp at hx;first | (subst hx;exact .inl rfl) | (rcases hx with rfl | rfl<;>exact .inl rfl) | (rcases hx with rfl | rfl | rfl<;>exact .inl rfl) | (rcases hx with rfl | rfl | rfl | rfl<;>exact .inl rfl) | (rcases hx with rfl | rfl | rfl | rfl | rfl<;>exact .inl rfl)) (by rfl) (by decide) (by decide +kernel) (by intro _;rfl)) Yb (by rfl)) (by rfl) (by rfl) (by rfl) (by rfl) (by rfl))) Yg)))))),?_⟩;have ho:∀ x∈ps.map tt,PyData.strOk (S x)=true:=fun x hx=>by
  obtain ⟨s,hs,rfl⟩:=List.mem_map.mp hx;exact Yiq (hb s hs).gd (Nat.le_trans (hb s hs).bd (by decide))
 have b7:=Lq k hb;walk_at "rd";refine ⟨few (by decide),fun p hp=>?_⟩;have s1:=Same.ao hp (.lst []);have jl:=s1 _ _ hP;refine ⟨_,X5 jl ho,_,X5 (xs:=[]) Yf (by simp),Uh _,?_⟩;rw [Ug (ps.map tt) []]
 match ps,hl,hb,q,jl,b7,ho with
 | [],hl,hb,q,jl,b7,ho =>
  refine Xu rfl ?_;rw [<- YhB];exact q _ s1
 | [x],hl,hb,q,jl,b7,ho=>exact Xc (by simp) ⟨_,.inl (au.of jl),Xu (by simp [aF]) ⟨_,au.of jl,_,rfl,q _ s1⟩⟩
 | x::y::r,hl,hb,q,jl,b7,ho =>
  have e4:(Str.ofString "row(").length=4:=by decide
  have e5:(Str.ofString "pick(").length=5:=by decide
  have e1:(Str.ofString ")").length=1:=by decide
  generalize hps:x::y::r=ps at *;have hlen:2<=ps.length:=by rw [<- hps];simp
  have hsh:qb ps k=if k%3=2 then .row (kr (ps.take 8)) else .pick (kq 0 (ps.take 10)):=by rw [<- hps];rfl
  refine Xc (by rw [<- hps];simp) ⟨_,.inl (au.of jl),Xc (by rw [Xi,List.length_map];omega) ⟨by decide,Yw (fun c=>?_) fun c=>?_⟩⟩
  ·have c':k%3=2:=by omega
   rw [if_pos c'] at hsh
   rw [hsh] at q b7
   have hj:=MK (xs:=(ps.take 8).map tt) (fun z hz=>by obtain ⟨w,hw,rfl⟩:=List.mem_map.mp hz;have:=(hb w (List.mem_of_mem_take hw)).len;omega) (by rw [List.length_map,List.length_take];omega);have hc8:WI (aF (ps.map tt)) none (some 8)=(((ps.take 8).map tt).map S).map V.str:=by
    have h8:WI (aF (ps.map tt)) none (some 8)=(aF (ps.map tt)).take 8:=Yg5 (aF (ps.map tt)) 8;rw [h8,aF,<- List.map_take,<- List.map_take];simp only [List.map_map];rfl
   have hn:aN (.row (kr (ps.take 8)))=(ps.take 8).map tt:=by
    show (kr (ps.take 8)).list.map (fun p=>tt p.2)=_
    rw [WR,List.map_map];rfl
   refine ⟨rfl,_,au.of jl,fun p1 hp1=>⟨_,p1,((ps.take 8).map tt).map S,rfl,rfl,au.of (by rw [Yf,hc8]),hj.1,?_⟩⟩;rw [lU,X9];have f:=q _ (s1.trans (.ao hp1 (.lst (WI (aF (ps.map tt)) none (some 8)))));rw [<- Dj b7.gd,hn] at f
   refine ⟨_,rfl,few ?_,few ?_,f⟩
   all_goals (simp only [YR,Ys,e4,e1];omega)
  ·have c':¬ k%3=2:=by omega
   rw [if_neg c'] at hsh
   rw [hsh] at q b7
   have htl:(ps.take 10).length=if ps.length<10 then ps.length else 10:=by rw [List.length_take];split<;>omega
   have hn:∀ i:Nat,(aN (.pick (kq 0 (ps.take 10))))[i]?=((ps.take 10)[i]?).map fun s=>[97+i]++58::tt s:=fun i=>by
    simp only [aN];rw [List.getElem?_map,MN,Option.map_map,Nat.zero_add];rfl
   have hnl:(aN (.pick (kq 0 (ps.take 10)))).length=(ps.take 10).length:=by simp [aN,QQ]
   have hj:=MK (xs:=aN (.pick (kq 0 (ps.take 10)))) (fun z hz=>by
    obtain ⟨i,hi⟩:=List.mem_iff_getElem?.mp hz;rw [hn] at hi
    obtain ⟨w,hw,rfl⟩:=Option.map_eq_some_iff.mp hi;have:=(hb w (List.mem_of_mem_take (List.mem_of_getElem? hw))).len;simp;omega) (by rw [hnl,List.length_take];omega)
   refine ⟨rfl,Wt (n:=(ps.take 10).length) (((aN (.pick (kq 0 (ps.take 10)))).map S).map V.str) (fun R r=>?_) (by rw [List.length_map,List.length_map,hnl]) (by rw [List.length_take];omega) ?_ ?_⟩
   ·walk_at "rd"
    refine ⟨_,.inl (au.of jl),?_⟩;rw [Xi,List.length_map];have:(if ((ps.length:Nat):Int)<10 then ((ps.length:Nat):Int) else 10)=(((ps.take 10).length:Nat):Int):=by rw [htl];split<;>split<;>omega
    rw [this];exact r
   ·intro i v H2 hi hv sm R r
    rw [List.getElem?_map,List.getElem?_map,hn] at hv
    have hti:(ps.take 10)[i]?=some (ps.take 10)[i]:=List.getElem?_eq_getElem hi;have hm:=List.mem_of_mem_take (List.getElem_mem hi);generalize (ps.take 10)[i]=s at hti hm;rw [hti] at hv
    have hv:=Option.some.inj hv;subst hv;have hlt:=(hb s hm).len;have zY:i<10:=by rw [List.length_take] at hi;omega
    have hpi:ps[i]?=some s:=by rw [List.getElem?_take] at hti;simpa [zY] using hti
    walk_at "rd";rw [KH];refine ⟨_,_,_,rfl,rfl,few (by decide),Pk zY,_,rfl,few ?_,_,au.of (sm _ _ jl),_,Yz (Wb (by rw [List.getElem?_map,hpi];rfl)),_,rfl,few ?_,?_⟩
    ·rw [QV,Ys,Ys];simp
    ·rw [QV,YE,Ys,Ys];simp;omega
    ·rw [QV,YE,YE]
     exact r H2 (.refl _)
   ·intro D H2 hD sm hd
    refine ⟨_,D,(aN (.pick (kq 0 (ps.take 10)))).map S,rfl,rfl,au.of hd,hj.1,?_⟩;rw [lU,X9];have f:=q _ (s1.trans sm);rw [<- Yix b7.gd] at f
    refine ⟨_,rfl,few ?_,few ?_,f⟩
    all_goals (simp only [YR,Ys,e5,e1];omega)
def MP (K:PySem.W.Frag):Sp:=fun vs H Q _=>∃ (nm fi:List Nat) (s:Sh) (w:Nat) (ls:List (List Nat)),vs=[.str (S nm),.str (S (tt s)),.int (w:Nat),.str (S fi)]/\B7 ls 2 1500 s/\nm.length<=10/\fi.length<=10/\∀ H',Same H H'->Q (.str (S (XM w nm fi s))) H'
theorem qX {r:Str} {l:List Nat} (h:r.cps.toList=l):r=S l:=by
 unfold S;rw [<- h]
theorem T4 {s:Sh} (h:Gd (r4 s)) (nm:List Nat):S nm++Str.ofString "=row("++S (tt s)++Str.ofString ",many(text(aba)))"=S (nm++61::tt (r4 s)):=by
 have e1:Str.ofString "=row("=S (61::(mc .row++[40])):=by decide +kernel
 have e2:Str.ofString ",many(text(aba)))"=S (44::(tt nY++[41])):=by decide +kernel
 rw [WB h (by simp [r4]),e1,e2,YE,YE,YE];simp [r4,kd,aN,aH.list,Yp]
theorem T5 {s:Sh} (h:Gd (r5 s)) (nm:List Nat):S nm++Str.ofString "=row(whole(3,-2),"++S (tt s)++Str.ofString ")"=S (nm++61::tt (r5 s)):=by
 have e1:Str.ofString "=row(whole(3,-2),"=S (61::(mc .row++40::(tt (.whole 3 (-2))++[44]))):=by decide +kernel
 rw [WB h (by simp [r5]),e1,lR,YE,YE,YE];simp [r5,kd,aN,aH.list,Yp]
theorem T6 {s:Sh} (h:Gd (r6 s)) (nm:List Nat):S nm++Str.ofString "=row("++S (tt s)++Str.ofString ",nowhere)"=S (nm++61::tt (r6 s)):=by
 have e1:Str.ofString "=row("=S (61::(mc .row++[40])):=by decide +kernel
 have e2:Str.ofString ",nowhere)"=S (44::(tt (.use jy)++[41])):=by decide +kernel
 rw [WB h (by simp [r6]),e1,e2,YE,YE,YE];simp [r6,kd,aN,aH.list,Yp]
theorem YhC {i:Nat} (h:i<4):iC [V.str (Str.ofString "ninesigns"),V.str (Str.ofString ""),V.str (Str.ofString "Na"),V.str (Str.ofString "n1")] (i:Int)=some (.str (S (WF.getD i []))):=by
 match i,h with
 | 0,_=>exact congrArg (fun z=>some (V.str z)) (by decide +kernel)
 | 1,_=>exact congrArg (fun z=>some (V.str z)) (by decide +kernel)
 | 2,_=>exact congrArg (fun z=>some (V.str z)) (by decide +kernel)
 | 3,_=>exact congrArg (fun z=>some (V.str z)) (by decide +kernel)
 | i+4,h=>omega
theorem Yea  (R:g.Raw "_law_row" "_law_row" yj ["_law_name","_law_shape_here","_law_way","_law_first"]) (aA:g.mg "len"=none):g.Fn (1) "_law_row" ["_law_name","_law_shape_here","_law_way","_law_first"] (MP g.K):=by
 refine R.fn YdX (fun vs H Q E h=>by obtain ⟨nm,fi,s,w,ls,rfl,hb,h1,h2,q⟩:=h;rfl) fun f_ cdv A outer s H vs Q E hr h=>?_
 obtain ⟨nm,fi,s,w,ls,rfl,hb,h1,h2,q⟩:=h;refine ⟨_,(@Yc _ _ _ _ _ (@Yo _ _ _ _ _ _ _ _ (@Yk _ _ _ _ _ _ _ _ YG (pv 2) Ye (Yl _)) (@Yd _ _ _ (@Yj _ _ _ _ (@Ym _ _ _ _ _ _ _ _ Yn (pv 0) (pv 1)))) Yi) (@Yc _ _ _ _ _ (@Yo _ _ _ _ _ _ _ _ (@Yk _ _ _ _ _ _ _ _ YG (pv 2) Ye (Yl _)) (@Yd _ _ _ (@Yj _ _ _ _ (@Ym _ _ _ _ _ _ _ _ Yn (@Ym _ _ _ _ _ _ _ _ Yn (@Yr _ _ _ _ _ _ _ Xg (@Xb _ _ _ _ (@Ya _ _ _ _ _ Yg (@Ya _ _ _ _ _ Yg (@Ya _ _ _ _ _ Yg (@Ya _ _ _ _ _ Yg Yb (by rfl)) (by rfl)) (by rfl)) (by rfl))) (@Ym _ _ _ _ _ _ _ _ Y2 (@YJ _ _ _ _ _ _ _ _ _ _ aA Xl (@Ya _ _ _ _ _ (pv 1) Yb (by rfl)) (by decide +kernel) (by rfl) (by rfl) (by decide) (by decide) (by rfl) (by rfl)) Ye) (fun _ _=>rfl)) Yg) (pv 1)))) Yi) (@Yc _ _ _ _ _ (@Yo _ _ _ _ _ _ _ _ (@Yk _ _ _ _ _ _ _ _ YG (pv 2) Ye (Yl _)) (@Yd _ _ _ (@Yj _ _ _ _ (@Ym _ _ _ _ _ _ _ _ Yn (@Ym _ _ _ _ _ _ _ _ Yn (pv 3) Yg) (pv 1)))) Yi) (@Yc _ _ _ _ _ (@Yo _ _ _ _ _ _ _ _ (@Yk _ _ _ _ _ _ _ _ YG (pv 2) Ye (Yl _)) (@Yd _ _ _ (@Yj _ _ _ _ (@Ym _ _ _ _ _ _ _ _ Yn (@Ym _ _ _ _ _ _ _ _ Yn (@Ym _ _ _ _ _ _ _ _ Yn (pv 0) Yg) (pv 1)) Yg))) Yi) (@Yc _ _ _ _ _ (@Yo _ _ _ _ _ _ _ _ (@Yk _ _ _ _ _ _ _ _ YG (pv 2) Ye (Yl _)) (@Yd _ _ _ (@Yj _ _ _ _ (@Ym _ _ _ _ _ _ _ _ Yn (@Ym _ _ _ _ _ _ _ _ Yn (@Ym _ _ _ _ _ _ _ _ Yn (pv 0) Yg) (pv 1)) Yg))) Yi) (@Yc _ _ _ _ _ (@Yo _ _ _ _ _ _ _ _ (@Yk _ _ _ _ _ _ _ _ YG (pv 2) Ye (Yl _)) (@Yd _ _ _ (@Yj _ _ _ _ (@Ym _ _ _ _ _ _ _ _ Yn (@Ym _ _ _ _ _ _ _ _ Yn (@Ym _ _ _ _ _ _ _ _ Yn (pv 0) Yg) (pv 1)) Yg))) Yi) (@Yc _ _ _ _ _ (@Yo _ _ _ _ _ _ _ _ (@Yk _ _ _ _ _ _ _ _ YG (pv 2) Ye (Yl _)) (@Yd _ _ _ (@Yj _ _ _ _ (@Ym _ _ _ _ _ _ _ _ Yn (@Ym _ _ _ _ _ _ _ _ Yn (@Ym _ _ _ _ _ _ _ _ Yn (@Ym _ _ _ _ _ _ _ _ Yn (pv 0) Yg) (@Ym _ _ _ _ _ _ _ _ Q6 Yg Ye)) (pv 1)) (@Ym _ _ _ _ _ _ _ _ Q6 Yg Ye)))) Yi) (@Yd _ _ _ (@Yj _ _ _ _ (@Ym _ _ _ _ _ _ _ _ Yn (@Ym _ _ _ _ _ _ _ _ Yn (pv 0) Yg) (pv 1))))))))))),?_⟩;have hlen:=hb.len;have l1:=Ys nm;have l2:=Ys fi;have l3:=Ys (tt s);have a1:(Str.ofString "=").length=1:=by decide
 have a2:(Str.ofString "=row(").length=5:=by decide
 have a3:(Str.ofString ",many(text(aba)))").length=17:=by decide
 have a4:(Str.ofString "=row(whole(3,-2),").length=17:=by decide
 have a5:(Str.ofString ")").length=1:=by decide
 have a6:(Str.ofString ",nowhere)").length=9:=by decide
 walk_at "rd";refine Yw (fun c=>?_) fun c1=>Yw (fun c=>?_) fun c2=>Yw (fun c=>?_) fun c3=>Yw (fun c=>?_) fun c4=>Yw (fun c=>?_) fun c5=>Yw (fun c=>?_) fun c6=>Yw (fun c=>?_) fun c7=>?_
 ·obtain rfl:w=1:=by omega
  refine ⟨few (by omega),?_⟩;rw [YE];exact q _ (.refl _)
 ·obtain rfl:w=2:=by omega
  refine ⟨few (by decide),fun p hp=>⟨few (by omega),by decide,?_⟩⟩;have e:((S (tt s)).length:Int)%4=(((tt s).length%4:Nat):Int):=by rw [Ys];omega
  have h9:=(LK ((tt s).length%4) (Nat.mod_lt _ (by decide))).2.2.2;rw [e];refine ⟨_,au.of Yf,_,YhC (Nat.mod_lt _ (by decide)),_,rfl,few ?_,few ?_,?_⟩
  ·rw [Ys];omega
  ·rw [YR,Ys];omega
  ·rw [UH,YE,YE,List.append_assoc]
   exact q _ (.ao hp _)
 ·obtain rfl:w=3:=by omega
  refine ⟨few (by omega),few (by rw [YR];omega),?_⟩;rw [UH,YE,YE,List.append_assoc];exact q _ (.refl _)
 ·obtain rfl:w=4:=by omega
  refine ⟨few (by omega),few (by rw [YR];omega),few (by rw [YR,YR];omega),?_⟩;rw [T4 (Vy hb 4).1];exact q _ (.refl _)
 ·obtain rfl:w=5:=by omega
  refine ⟨few (by omega),few (by rw [YR];omega),few (by rw [YR,YR];omega),?_⟩;rw [T5 (Vy hb 5).1];exact q _ (.refl _)
 ·obtain rfl:w=6:=by omega
  refine ⟨few (by omega),few (by rw [YR];omega),few (by rw [YR,YR];omega),?_⟩;rw [T6 (Vy hb 6).1];exact q _ (.refl _)
 ·obtain rfl:w=7:=by omega
  have e5:(Str.ofString "many(").cps.toList=mc .many++[40]:=by decide +kernel
  have e6:(List.replicate (Int.toNat 7) (Str.ofString ")").cps.toList).flatten=List.replicate 7 41:=by decide +kernel
  refine ⟨few (by omega),by decide,by decide,by decide,fun r hr=>?_⟩;rw [e5] at hr
  have hr:r=S m7:=qX hr;have m35:m7.length=35:=by rw [QR];rfl
  subst hr;refine ⟨few (by rw [YR,Ys m7];omega),few (by rw [YR,YR,Ys m7];omega),by decide,by decide,by decide,fun r hr=>?_⟩;rw [e6] at hr
  have hr:=qX hr;subst hr;refine ⟨few (by rw [YR,YR,YR,Ys m7,Ys (List.replicate 7 41),List.length_replicate];omega),?_⟩;rw [UH,YE,YE,YE,YE];have e:nm++[61]++m7++tt s++List.replicate 7 41=XM 7 nm fi s:=by
   show _=nm++61::(m7++(tt s++List.replicate 7 41))
   simp only [List.append_assoc];rfl
  rw [e];exact q _ (.refl _)
 ·refine ⟨few (by omega),few (by rw [YR];omega),?_⟩
  rw [UH,YE,YE,List.append_assoc];have e:nm++([61]++tt s)=XM w nm fi s:=by
   unfold XM;rw [if_neg (by omega),if_neg (by omega),if_neg (by omega),if_neg (by omega),if_neg (by omega),if_neg (by omega),if_neg (by omega)];rfl
  rw [e];exact q _ (.refl _)
def M4 (K:PySem.W.Frag):Sp:=fun vs H Q _=>∃ (t:List Nat) (e:Nat),vs=[.str (S t),.int (e:Nat)]/\t.length<=16000 /\
 (e=0->Q (.str (S (t++[10]))) H)/\(e=1->Q (.str (S (10::t))) H)/\(e=2->Q (.str (S (Yp [10,10] (spl t)))) H)/\(e=3->Q (.str (S [])) H)/\(e=4->Q (.str (S (ft t))) H)/\(e=5->∀ v H',Same H H'->Vr K H' v->(∃ d,Den K H' v d/\d.depth<=64/\∀ x,d.eqv (.str x)=false)->Q v H')/\(6<=e->Q (.str (S t)) H)
theorem YcB  (R:g.Raw "_law_edged" "_law_edged" yp ["_law_text","_law_edge"]) (aA:g.mg "len"=none):g.Fn (1) "_law_edged" ["_law_text","_law_edge"] (M4 g.K):=by
 refine R.fn YbS (fun vs H Q E h=>by obtain ⟨t,e,rfl,hl,q0,q1,q2,q3,q4,q5,q6⟩:=h;rfl) fun f_ cdv A outer s H vs Q E hr h=>?_
 obtain ⟨t,e,rfl,hl,q0,q1,q2,q3,q4,q5,q6⟩:=h;refine ⟨_,(@Yc _ _ _ _ _ (@Yo _ _ _ _ _ _ _ _ (@Yk _ _ _ _ _ _ _ _ YG (pv 1) Ye (Yl _)) (@Yd _ _ _ (@Yj _ _ _ _ (@Ym _ _ _ _ _ _ _ _ Yn (pv 0) Yg))) Yi) (@Yc _ _ _ _ _ (@Yo _ _ _ _ _ _ _ _ (@Yk _ _ _ _ _ _ _ _ YG (pv 1) Ye (Yl _)) (@Yd _ _ _ (@Yj _ _ _ _ (@Ym _ _ _ _ _ _ _ _ Yn Yg (pv 0)))) Yi) (@Yc _ _ _ _ _ (@Hr _ (1) _ _ _ _ _ _ _ _ _ _ _ rfl (.inl rfl) (@Yh1 _ (0) _ _ _ _ _ _ _ _ _ _ _ rfl (.inl rfl) (by decide +kernel) (by decide) (by decide) (by decide) (by rfl) (by rfl)) Yi (by decide) (by decide)) (@Yc _ _ _ _ _ (@Yo _ _ _ _ _ _ _ _ (@Yk _ _ _ _ _ _ _ _ YG (pv 1) Ye (Yl _)) (@Yd _ _ _ (@Yj _ _ _ _ Yg)) Yi) (@Yc _ _ _ _ _ (@Hr _ (1) _ _ _ _ _ _ _ _ _ _ _ rfl (.inl rfl) (@Yhh _ (0) _ _ _ _ _ _ _ _ _ _ _ _ _ rfl (.inl rfl) (by decide +kernel) (by decide) (by decide) (by decide) (by rfl) (by rfl)) Yi (by decide) (by decide)) (@Yc _ _ _ _ _ (@Yo _ _ _ _ _ _ _ _ (@Yk _ _ _ _ _ _ _ _ YG (pv 1) Ye (Yl _)) (@Yd _ _ _ (@Yj _ _ _ _ (@Yr _ _ _ _ _ _ _ Xg (@Xb _ _ _ _ (@Ya _ _ _ _ _ Ye (@Ya _ _ _ _ _ Wn (@Ya _ _ _ _ _ W7 (@Ya _ _ _ _ _ (@Xb _ _ _ _ (@Ya _ _ _ _ _ Yg Yb (by rfl))) (@Ya _ _ _ _ _ (@XJ _ _ _ _ _ (@Ya _ _ _ _ _ Yg (@Ya _ _ _ _ _ Yg Yb (by rfl)) (by rfl))) Yb (GD _ _ _ _ _)) (YfL _ _ _ _)) (by rfl)) (by rfl)) (by rfl))) (@Ym _ _ _ _ _ _ _ _ Y2 (@YJ _ _ _ _ _ _ _ _ _ _ aA Xl (@Ya _ _ _ _ _ (pv 0) Yb (by rfl)) (by decide +kernel) (by rfl) (by rfl) (by decide) (by decide) (by rfl) (by rfl)) Ye) (fun _ _=>rfl)))) Yi) (@Yd _ _ _ (@Yj _ _ _ _ (pv 0))))))))),?_⟩;have l1:=Ys t;have e10:Str.ofString "\n"=S [10]:=by decide +kernel
 have e20:Str.ofString "\n\n"=S [10,10]:=by decide +kernel
 have ez:Str.ofString "=zz="=S fV:=by decide +kernel
 have n1:(S [10]).length=1:=rfl;walk_at "rd";rw [e10,e20,ez,UH];refine Yw (fun c=>?_) fun c0=>Yw (fun c=>?_) fun c1=>⟨(e:Int),rfl,Yw (fun c=>?_) fun c2=>?_⟩
 ·refine ⟨few (by omega),?_⟩
  rw [YE];exact q0 (by omega)
 ·refine ⟨few (by omega),?_⟩
  rw [YE];exact q1 (by omega)
 ·refine ⟨S t,rfl,by omega,?_⟩
  rw [Dg];exact q2 (by omega)
 walk_at "rd";refine Yw (fun c=>?_) fun c3=>⟨(e:Int),rfl,Yw (fun c=>?_) fun c4=>?_⟩
 ·exact q3 (by omega)
 ·refine ⟨S t,rfl,by omega,?_⟩
  rw [Dh];exact q4 (by omega)
 walk_at "rd";refine Yw (fun c=>?_) fun c5=>q6 (by omega)
 refine ⟨few (by decide),fun p1 g1=>⟨few (by decide),fun p2 g2=>⟨few (by decide),fun p3 g3=>⟨few (by omega),by decide,_,au.of Yf,?_⟩⟩⟩⟩;have u1:=Same.ao g1 (.lst [V.str (Str.ofString "a=row()")]);have u2:=Same.ao g2 (.tup [V.str (Str.ofString "a"),V.str (Str.ofString "row()")]);have u3:=Same.ao g3 (.lst [V.int 3,V.non,V.bl true,V.ref p1,V.ref p2]);obtain ⟨z,e1,e2⟩:=Xy ((S t).length:Int) (j:=5) (by decide);rw [e1];have fin:∀ x:V,Vr g.K _ x->(∃ d,Den g.K _ x d/\d.depth<=64/\∀ y,d.eqv (.str y)=false)->_:=fun x hx hd=>q5 (by omega) x _ ((u1.trans u2).trans u3) hx hd
 have k1:PyData.strOk (Str.ofString "a=row()")=true:=by decide +kernel
 have k2:PyData.strOk (Str.ofString "a")=true:=by decide +kernel
 have k3:PyData.strOk (Str.ofString "row()")=true:=by decide +kernel
 match z,e2 with
 | 0,_=>exact ⟨_,Yz (j:=0) rfl,fin _ ⟨_,.int 3,rfl⟩ ⟨_,.int 3,by decide,fun y=>by simp [PyData.eqv]⟩⟩
 | 1,_=>exact ⟨_,Yz (j:=1) rfl,fin _ ⟨_,.non,rfl⟩ ⟨_,.non,by decide,fun y=>by simp [PyData.eqv]⟩⟩
 | 2,_=>exact ⟨_,Yz (j:=2) rfl,fin _ ⟨_,.bl true,rfl⟩ ⟨_,.bl true,by decide,fun y=>by simp [PyData.eqv]⟩⟩
 | 3,_=>exact ⟨_,Yz (j:=3) rfl,fin _ ⟨_,.lst (u3 _ _ (u2 _ _ Yf)),rfl⟩ ⟨.list [.str (Str.ofString "a=row()")],.lst (au.of (u3 _ _ (u2 _ _ Yf))) (.cons (.str _ k1) .nil),by simp [PyData.depth,PyData.depthAll],fun y=>by simp [PyData.eqv]⟩⟩
 | 4,_=>exact ⟨_,Yz (j:=4) rfl,fin _ ⟨_,.tup (u3 _ _ Yf),rfl⟩ ⟨.tuple [.str (Str.ofString "a"),.str (Str.ofString "row()")],.tup (aD.of (u3 _ _ Yf)) (.cons (.str _ k2) (.cons (.str _ k3) .nil)),by simp [PyData.depth,PyData.depthAll],fun y=>by simp [PyData.eqv]⟩⟩
def tV (K:PySem.W.Frag):Sp:=fun vs H Q _=>∃ (v:V) (W:Addr) (ws:List Nat),vs=[v,.ref W]/\H W=some (.lst (ws.map fun (n:Nat)=>V.int (n:Int)))/\((Vr K H v/\Q (.int 1) H)\/∃ t:List Nat,v = .str (S t)/\t.length<=50000/\(t=[]->Q (.int 1) H)/\(t≠[]->∀ H',Same H H'->((spl t).length<=8/\7∉ws->Q (.int 1) H')/\(¬ ((spl t).length<=8/\7∉ws)->Q (.int 0) H')))
theorem Qa (n:Nat):∀ ws:List Nat,inV (.int (n:Int)) (ws.map fun (w:Nat)=>V.int (w:Int))=decide (n∈ws)
 | []=>rfl
 | a::ws=>by
  have e:gq (.int (a:Int)) (.int (n:Int))=decide (a=n):=by
   simp only [gq];by_cases c:a=n
   ·subst c;simp
   ·have:¬ ((a:Int)=(n:Int)):=by omega
    simp [c,this]
  have ih:=Qa n ws;rw [inV,List.map_cons,List.any_cons,e];have ih':((ws.map fun (w:Nat)=>V.int (w:Int)).any fun y=>gq y (.int (n:Int)))=decide (n∈ws):=ih;rw [ih'];by_cases c:a=n
  ·subst c;simp
  ·have c':¬ n=a:=fun z=>c z.symm
   simp [c,c']
theorem VG:∀ ws:List Nat,(ws.map fun (w:Nat)=>V.int (w:Int)).all Wr=true
 | []=>rfl
 | a::ws=>VG ws
theorem Z4D  (R:g.Raw "_law_edge_due" "_law_edge_due" yq ["_law_thing","_law_ways"]) (iH:g.mg "int"=none) (Zb:g.mg "isinstance"=none) (aA:g.mg "len"=none) (aU:g.mg "str"=none):g.Fn (1) "_law_edge_due" ["_law_thing","_law_ways"] (tV g.K):=by
 refine R.fn Z4w (fun vs H Q E h=>by obtain ⟨v,W,ws,rfl,hW,h⟩:=h;rfl) fun f_ cdv A outer s H vs Q E hr h=>?_
 obtain ⟨v,W,ws,rfl,hW,h⟩:=h;refine ⟨_,(Yc (Yo (VZ (Xr (Xd (YJ Zb WU (Ya (pv 0) (Ya (QC (T:="str") aU) Yb))))) (Vk (Yk YG (pv 0) Yg (Yl _)))).pt (Yd (Yj Ye)) Yi)
   (Yd (Yj (Yr Xg (Xb (Ya Ye (Ya Ye Yb))) (XZ iH RJ (Ya (Qt (XI W8 (YJ aA YN (Ya (XF PySem.F.plainAttrs_str PySem.F.slot_str_split PySem.F.type_str_split G4 (pv 0) (Ya Yg Yb)) Yb)) Ye (Yl _)) (WV (XI Xk Ye (pv 1) rfl))) Yb)) (fun _ _=>rfl))))),?_⟩
 have e10:Str.ofString "\n"=⟨#[10]⟩:=by decide +kernel
 have e0:Str.ofString ""=S []:=by decide +kernel
 walk_at "rd";rw [e10,e0];rcases h with ⟨⟨ty,h1,h2⟩,q⟩ | ⟨t,rfl,hl,q0,q⟩
 ·exact ⟨_,rfl,_,h1,false,h2,Xu rfl q⟩
 ·refine ⟨_,rfl,_,.str _,true,rfl,Xc (by decide) ⟨rfl,Yw (fun c=>q0 (Y8 (V.str.inj c))) fun c=>⟨few (by decide),fun p hp=>⟨rfl,S t,10,rfl,rfl,by rw [Ys];omega,fun l hl'=>?_⟩⟩⟩⟩
  have u1:=Same.ao hp (.lst [V.int 1,V.int 0]);have u2:=Same.ao hl' (.lst ((Txt.split (S t) ⟨#[10]⟩).map V.str));have hvl:(Txt.split (S t) ⟨#[10]⟩).map V.str=aF (spl t):=by rw [UK,List.map_map];rfl
  have hq:=q (fun z=>c (by rw [z])) _ (u1.trans u2);have hp1:=u2 _ _ (Yf (H:=H) (a:=p) (o := .lst [V.int 1,V.int 0]));refine ⟨l,rfl,_,.inl (au.of Yf),?_⟩;rw [hvl] at hq hp1 ⊢
  rw [Xi];refine Yw (fun c8=>?_) fun c8=>?_
  ·exact .inr ⟨_,au.of hp1,_,rfl,hq.2 fun z=>by omega⟩
  ·have qg:=(u1.trans u2) _ _ hW
   rw [hvl] at qg
   refine ⟨_,.inl (au.of qg),rfl,VG ws,.inr ⟨_,au.of hp1,?_⟩⟩;have e7:=Qa 7 ws;have e7':inV (.int 7) (ws.map fun (w:Nat)=>V.int (w:Int))=decide (7∈ws):=e7;rw [e7'];by_cases c7:7∈ws
   ·rw [decide_eq_true c7]
    exact ⟨_,rfl,hq.2 fun z=>z.2 c7⟩
   ·rw [decide_eq_false c7]
    exact ⟨_,rfl,hq.1 ⟨by omega,c7⟩⟩
def bV:Option (List Nat)->V
 | none => .non
 | some w => .str (S w)
def Ui (H:Hp) (B:Addr) (bk:List (List Nat×Sh)):Prop:=∃ kvs:List (Key×V),H B=some (.dK kvs)/\∀ x∈bk.map (·.1),Xh kvs (Sum.inr (S x))=some (bV (br bk x))
def tW (bk:List (List Nat×Sh)):Prop:=∀ x w,br bk x=some w->w∈bk.map (·.1)
def Qs (K:PySem.W.Frag):Sp:=fun vs H Q _=>∃ (N B:Addr) (bk:List (List Nat×Sh)),vs=[.ref N,.ref B]/\H N=some (.lst (aF (bk.map (·.1))))/\Ui H B bk/\tW bk/\bk.length<=9/\∀ R H',Same H H'->H' R=some (.lst (aF (XC bk)))->Q (.ref R) H'
theorem M5 {bk:List (List Nat×Sh)} (hc:tW bk) {x:List Nat}:∀ (m:Nat) {h:Option (List Nat)} {w:List Nat},(∀ w,h=some w->w∈bk.map (·.1))->eV bk x m h=some w->w∈bk.map (·.1)
 | 0,h,w,hh,e=>hh w e
 | m+1,h,w,hh,e=>by
  rw [zU] at e
  cases e':eV bk x m h with
  | none=>rw [e'] at e;cases e
  | some u =>
   rw [e',stp] at e
   split at e
   ·cases e;exact M5 hc m hh e'
   ·exact hc u w e
theorem YcP  (R:g.Raw "_law_ring" "_law_ring" yr ["_law_names","_law_bare"]) (aA:g.mg "len"=none) (Zv:g.mg "range"=none):g.Fn (1) "_law_ring" ["_law_names","_law_bare"] (Qs g.K):=by
 refine R.fn nH (fun vs H Q E h=>by obtain ⟨N,B,bk,rfl,hN,⟨kvs,hB,hk⟩,hcl,hl,q⟩:=h;rfl) fun f_ cdv A outer s H vs Q E hr h=>?_
 obtain ⟨N,B,bk,rfl,hN,⟨kvs,hB,hk⟩,hcl,hl,q⟩:=h;have hu:=UV hr;refine ⟨_,(Yc (YB (i:=2) nH.nd rfl (.inl rfl) (Xb Yb))
   (Yc (Xs PassesOwn.never rfl (Y9 (pv 0)) (Yv (i:=3) nH.nd rfl (.inl rfl)) (Yc (YB (i:=4) nH.nd rfl (.inl rfl) (Fx (UV hr) (pv 1) (pv 3) (fun _ _=>rfl)))
   (Yc (Xs PassesOwn.never rfl (XD rfl Zv (Ya (YJ aA YN (Ya (pv 0) Yb)) Yb)) (Yv (i:=5) nH.nd rfl (.inl rfl)) (Yd (Yo (Um (Yk Eb (pv 4) Wn (Yl _)) (VO (Yk UR (pv 4) (pv 3) (Yl _)))).pt (Yd (YB (i:=4) nH.nd rfl (.inl rfl) (Fx (UV hr) (pv 1) (pv 4) (fun _ _=>rfl)))) Yi)))
   (Yd (Yo (Yk YG (pv 4) (pv 3) (Yl _)) (Yd (YY (XF PySem.F.plainAttrs_list PySem.F.slot_list_append PySem.F.type_list_append Wg (pv 2) (Ya (pv 3) Yb)))) Yi)))))
   (Yd (Yj (pv 2))))),?_⟩
 have hlen:(bk.map (·.1)).length=bk.length:=List.length_map ..;walk_at "rd";refine ⟨few (by decide),fun p hp=>?_⟩;have nN:N≠p:=YF hN hp;have nB:B≠p:=YF hB hp;have M6:∀ o,upd H p o N=some (.lst (aF (bk.map (·.1)))):=fun o=>by rw [Yq nN];exact hN
 have upB:∀ o,upd H p o B=some (.dK kvs):=fun o=>by rw [Yq nB];exact hB
 refine Wj (K:=g.K) (a:=N) (xs:=aF (bk.map (·.1))) (fun i σ' H'=>H'=upd H p (.lst (aF (((bk.map (·.1)).take i).filter fun x=>decide (eV bk x bk.length (br bk x)=some x))))/\∃ o3 o4 o5,σ'=[some (.ref N),some (.ref B),some (.ref p),o3,o4,o5]) (fun R r=>by walk_at "rd";exact r) ⟨rfl,none,none,none,rfl⟩ ?_ ?_ ?_
 ·rintro i σ' H' _ ⟨rfl,_⟩
  exact au.of (M6 _)
 ·rintro i v σ' H' hv ⟨rfl,o3,o4,o5,rfl⟩
  rw [aF,List.getElem?_map] at hv
  obtain ⟨x,hx,rfl⟩:=Option.map_eq_some_iff.mp hv;have hxm:=List.mem_of_getElem? hx;have hil:=(List.getElem?_eq_some_iff.mp hx).1;generalize hac:(((bk.map (·.1)).take i).filter fun x=>decide (eV bk x bk.length (br bk x)=some x))=acc;have Pn:acc.length<=9:=by
   have:=List.length_filter_le (fun x=>decide (eV bk x bk.length (br bk x)=some x)) ((bk.map (·.1)).take i);rw [hac,List.length_take] at this
   omega
  have hnext:(((bk.map (·.1)).take (i+1)).filter fun x=>decide (eV bk x bk.length (br bk x)=some x))=acc++(if eV bk x bk.length (br bk x)=some x then [x] else []):=by
   rw [Wk hx,List.filter_append,hac]
   congr 1
   by_cases c:eV bk x bk.length (br bk x)=some x
   ·simp [c]
   ·simp [c]
  have get:∀ y∈bk.map (·.1),Qk (upd H p (.lst (aF acc))) B (.str (S y)) (some (bV (br bk y))):=fun y hy=>by
   have:=Qk.k (k:=Sum.inr (S y)) (upB (.lst (aF acc)));rw [hk y hy] at this
   exact this
  refine Xq (fun σ2 H2=>H2=upd H p (.lst (aF acc))/\σ2=[some (.ref N),some (.ref B),some (.ref p),some (.str (S x)),some (bV (br bk x)),o5]) ?_ ?_
  rotate_left
  ·intro Nn hNn
   walk_at "rd";exact ⟨_,rfl,_,rfl,B,_,rfl,get x hxm,hNn _ _ ⟨rfl,rfl⟩⟩
  rintro σ2 H2 ⟨rfl,rfl⟩;refine Xq (fun σ2 H2=>H2=upd H p (.lst (aF acc))/\∃ o5,σ2=[some (.ref N),some (.ref B),some (.ref p),some (.str (S x)),some (bV (eV bk x bk.length (br bk x))),o5]) ?_ ?_
  rotate_left
  ·intro Nn hNn
   refine VM (n:=bk.length) (fun j σ' H'=>H'=upd H p (.lst (aF acc))/\∃ o5,σ'=[some (.ref N),some (.ref B),some (.ref p),some (.str (S x)),some (bV (eV bk x j (br bk x))),o5]) (fun R r=>by walk_at "rd";exact ⟨_,.inl (au.of (M6 _)),by rw [Xi,hlen];exact r⟩) (by omega) ⟨rfl,o5,rfl⟩ ?_ ?_
   ·rintro j σ' H' hj ⟨rfl,o5,rfl⟩
    have hin:∀ w,eV bk x j (br bk x)=some w->w∈bk.map (·.1):=fun w hw=>M5 hcl j (fun w hw=>hcl x w hw) hw
    rw [zU]
    cases e:eV bk x j (br bk x) with
    | none =>
     walk_at "rd";exact Xc (fun z=>z rfl) rfl
    | some w =>
     walk_at "rd";refine Xu (by intro z;cases z) ⟨Wl _ _,Yw (fun c=>⟨_,rfl,_,rfl,B,_,rfl,get w (hin w e),rfl,?_⟩) fun c=>?_⟩
     ·have c':¬ w=x:=fun z=>c (by rw [z];rfl)
      rw [stp,if_neg c']
     ·have c':w=x:=Y8 (V.str.inj (Classical.byContradiction c))
      rw [stp,if_pos c']
   ·rintro σ' H' ⟨rfl,o5,rfl⟩
    exact hNn _ _ ⟨rfl,o5,rfl⟩
  rintro σ2 H2 ⟨rfl,o5',rfl⟩;rw [hnext];generalize eV bk x bk.length (br bk x)=hh
  cases hh with
  | none =>
   walk_at "rd";exact ⟨rfl,Xc (by intro z;cases z) (by simp)⟩
  | some w =>
   walk_at "rd";refine ⟨Wl _ _,Yw (fun c=>?_) fun c=>?_⟩
   ·have c':w=x:=Y8 (V.str.inj c)
    refine ⟨.inl ⟨rfl,_,au.of Yf⟩,_,Yf,Nat.lt_of_le_of_lt (show (aF acc).length<=9 by rw [Xi];exact Pn) (by decide),?_⟩;rw [VN,if_pos c'];simp [aF]
   ·have c':¬ w=x:=fun z=>c (by rw [z];rfl)
    rw [if_neg c',List.append_nil]
 ·rintro σ' H' ⟨rfl,o3,o4,o5,rfl⟩
  walk_at "rd";refine q p _ (.ao hp _) ?_;rw [Yf,Xi,List.take_of_length_le (by omega)];rfl
def six (d:Nat):List V:=[.bl (decide (d=0)),.bl (decide (d=1)),.bl (decide (d=2)),.bl (decide (d=3)),.bl (decide (d=4)),.bl (decide (d=5))]
def M7 (K:PySem.W.Frag) (CN CC CT CR CM CG:Addr):Sp:=fun vs H Q _=>∃ (b C:Addr) (dc:Option Addr) (d:Nat),vs=[.ref b]/\H b=some (Wv b (.ref C) dc)/\(C=CC/\d=0\/C=CN/\d=1\/C=CT/\d=2\/C=CR/\d=3\/C=CM/\d=4\/C=CG/\d=5)/\∀ p H',Same H H'->H' p=some (.lst (six d))->Q (.ref p) H'
theorem YcD {Z0 Z3 Z8 Z5 Z6 Z4:Addr} (R:g.Raw "_law_kinds" "_law_kinds" yt ["_law_error"]) (Zb:g.mg "isinstance"=none) (bH:g.mg "Crowded"=some (.ref Z3)) (gk:g.mg "NoGround"=some (.ref Z4)) (fL:g.mg "NoName"=some (.ref Z6)) (aj:g.mg "NoNote"=some (.ref Z0)) (eO:g.mg "NoRange"=some (.ref Z5)) (dD:g.mg "Twice"=some (.ref Z8)) (aZ:cA g.K Z3) (aQ:cA g.K Z4) (bM:cA g.K Z6) (bN:cA g.K Z0) (bf:cA g.K Z5) (cQ:cA g.K Z8) (dJ:PySem.W.kitOne g.K (.ref Z0) (.ref Z0)=some true) (cU:PySem.W.kitOne g.K (.ref Z0) (.ref Z3)=some false) (d8:PySem.W.kitOne g.K (.ref Z0) (.ref Z8)=some false) (cV:PySem.W.kitOne g.K (.ref Z0) (.ref Z5)=some false) (dM:PySem.W.kitOne g.K (.ref Z0) (.ref Z6)=some false) (cF:PySem.W.kitOne g.K (.ref Z0) (.ref Z4)=some false) (cW:PySem.W.kitOne g.K (.ref Z3) (.ref Z0)=some false) (cG:PySem.W.kitOne g.K (.ref Z3) (.ref Z3)=some true) (dN:PySem.W.kitOne g.K (.ref Z3) (.ref Z8)=some false) (cH:PySem.W.kitOne g.K (.ref Z3) (.ref Z5)=some false) (cX:PySem.W.kitOne g.K (.ref Z3) (.ref Z6)=some false) (bT:PySem.W.kitOne g.K (.ref Z3) (.ref Z4)=some false) (d9:PySem.W.kitOne g.K (.ref Z8) (.ref Z0)=some false) (dO:PySem.W.kitOne g.K (.ref Z8) (.ref Z3)=some false) (fj:PySem.W.kitOne g.K (.ref Z8) (.ref Z8)=some true) (dR:PySem.W.kitOne g.K (.ref Z8) (.ref Z5)=some false) (eE:PySem.W.kitOne g.K (.ref Z8) (.ref Z6)=some false) (cY:PySem.W.kitOne g.K (.ref Z8) (.ref Z4)=some false) (cZ:PySem.W.kitOne g.K (.ref Z5) (.ref Z0)=some false) (cI:PySem.W.kitOne g.K (.ref Z5) (.ref Z3)=some false) (dU:PySem.W.kitOne g.K (.ref Z5) (.ref Z8)=some false) (cJ:PySem.W.kitOne g.K (.ref Z5) (.ref Z5)=some true) (dh:PySem.W.kitOne g.K (.ref Z5) (.ref Z6)=some false) (bU:PySem.W.kitOne g.K (.ref Z5) (.ref Z4)=some false) (dW:PySem.W.kitOne g.K (.ref Z6) (.ref Z0)=some false) (dj:PySem.W.kitOne g.K (.ref Z6) (.ref Z3)=some false) (eF:PySem.W.kitOne g.K (.ref Z6) (.ref Z8)=some false) (dw:PySem.W.kitOne g.K (.ref Z6) (.ref Z5)=some false) (dX:PySem.W.kitOne g.K (.ref Z6) (.ref Z6)=some true) (cL:PySem.W.kitOne g.K (.ref Z6) (.ref Z4)=some false) (cM:PySem.W.kitOne g.K (.ref Z4) (.ref Z0)=some false) (bW:PySem.W.kitOne g.K (.ref Z4) (.ref Z3)=some false) (dz:PySem.W.kitOne g.K (.ref Z4) (.ref Z8)=some false) (bY:PySem.W.kitOne g.K (.ref Z4) (.ref Z5)=some false) (cN:PySem.W.kitOne g.K (.ref Z4) (.ref Z6)=some false) (bI:PySem.W.kitOne g.K (.ref Z4) (.ref Z4)=some true):g.Fn (1) "_law_kinds" ["_law_error"] (M7 g.K Z0 Z3 Z8 Z5 Z6 Z4):=by
 refine R.fn Ig (fun vs H Q E h=>by obtain ⟨b,C,dc,d,rfl,hb,hC,q⟩:=h;rfl) fun f_ cdv A outer s H vs Q E hr h=>?_
 obtain ⟨b,C,dc,d,rfl,hb,hC,q⟩:=h;refine ⟨_,(Yc (YB (i:=1) Ig.nd rfl (.inl rfl) (Xb (Ya (YJ Zb (XB (K:=g.K) (Yt bN (Yt aZ (Yt cQ (Yt bf (Yt bM (Yt aQ WP))))))) (Ya (pv 0) (Ya (Vp bH) Yb))) (Ya (YJ Zb (XB (K:=g.K) (Yt bN (Yt aZ (Yt cQ (Yt bf (Yt bM (Yt aQ WP))))))) (Ya (pv 0) (Ya (Vp aj) Yb))) (Ya (YJ Zb (XB (K:=g.K) (Yt bN (Yt aZ (Yt cQ (Yt bf (Yt bM (Yt aQ WP))))))) (Ya (pv 0) (Ya (Vp dD) Yb))) Yb)))))
   (Yd (Yj (Ym SQ (pv 1) (Xb (Ya (YJ Zb (XB (K:=g.K) (Yt bN (Yt aZ (Yt cQ (Yt bf (Yt bM (Yt aQ WP))))))) (Ya (pv 0) (Ya (Vp eO) Yb))) (Ya (YJ Zb (XB (K:=g.K) (Yt bN (Yt aZ (Yt cQ (Yt bf (Yt bM (Yt aQ WP))))))) (Ya (pv 0) (Ya (Vp fL) Yb))) (Ya (YJ Zb (XB (K:=g.K) (Yt bN (Yt aZ (Yt cQ (Yt bf (Yt bM (Yt aQ WP))))))) (Ya (pv 0) (Ya (Vp gk) Yb))) Yb)))))))),?_⟩
 have facts:C∈[Z0,Z3,Z8,Z5,Z6,Z4]/\W.kitOne g.K (.ref C) (.ref Z3)=some (decide (d=0))/\W.kitOne g.K (.ref C) (.ref Z0)=some (decide (d=1))/\W.kitOne g.K (.ref C) (.ref Z8)=some (decide (d=2))/\W.kitOne g.K (.ref C) (.ref Z5)=some (decide (d=3))/\W.kitOne g.K (.ref C) (.ref Z6)=some (decide (d=4))/\W.kitOne g.K (.ref C) (.ref Z4)=some (decide (d=5)):=by
  rcases hC with ⟨rfl,rfl⟩ | ⟨rfl,rfl⟩ | ⟨rfl,rfl⟩ | ⟨rfl,rfl⟩ | ⟨rfl,rfl⟩ | ⟨rfl,rfl⟩
  ·exact ⟨by simp,cG,cW,dN,cH,cX,bT⟩
  ·exact ⟨by simp,cU,dJ,d8,cV,dM,cF⟩
  ·exact ⟨by simp,dO,d9,fj,dR,eE,cY⟩
  ·exact ⟨by simp,cI,cZ,dU,cJ,dh,bU⟩
  ·exact ⟨by simp,dj,dW,eF,dw,dX,cL⟩
  ·exact ⟨by simp,bW,cM,dz,bY,cN,bI⟩
 obtain ⟨m,k0,k1,k2,k3,k4,k5⟩:=facts;walk_at "rd";refine ⟨C,m,b,_,_,_,dc,rfl,rfl,hb,k0,C,m,b,_,_,_,dc,rfl,rfl,hb,k1,C,m,b,_,_,_,dc,rfl,rfl,hb,k2,few (by decide),fun p hp=>?_⟩;have u1:=Same.ao hp (.lst [V.bl (decide (d=0)),V.bl (decide (d=1)),V.bl (decide (d=2))]);have hb1:=u1 _ _ hb;refine ⟨C,m,b,_,_,_,dc,rfl,rfl,hb1,k3,C,m,b,_,_,_,dc,rfl,rfl,hb1,k4,C,m,b,_,_,_,dc,rfl,rfl,hb1,k5,few (by decide),fun p1 hp1=>?_⟩;have u2:=Same.ao hp1 (.lst [V.bl (decide (d=3)),V.bl (decide (d=4)),V.bl (decide (d=5))]);refine ⟨_,u2 _ _ Yf,_,Yf,few (by simp),fun p2 hp2=>?_⟩;exact q p2 _ ((u1.trans u2).trans (.ao hp2 _)) Yf
def UO (ws:List Nat) (n:Nat) (ring:List (List Nat)):Nat :=
 if 8<n\/7∈ws then 0 else if 1∈ws\/2∈ws then 1 else if 4∈ws\/3∈ws.drop 1 then 2 else if 5∈ws then 3 else if 6∈ws then 4 else if ring≠[] then 5 else 6
def M8 (K:PySem.W.Frag):Sp:=fun vs H Q _=>∃ (W N B:Addr) (ws:List Nat) (bk:List (List Nat×Sh)) (n:Nat),vs=[.ref W,.int (n:Nat),.ref N,.ref B]/\H W=some (.lst (ws.map fun (n:Nat)=>V.int (n:Int)))/\H N=some (.lst (aF (bk.map (·.1))))/\Ui H B bk/\tW bk/\bk.length<=9/\(∀ x∈bk.map (·.1),PyData.strOk (S x)=true)/\∀ H',Same H H'->Q (.int (UO ws n (XC bk):Nat)) H'
theorem M9 {bk:List (List Nat×Sh)} {x:List Nat} (h:x∈XC bk):x∈bk.map (·.1):=(List.mem_filter.mp h).1
theorem Ui.keep {H H':Hp} {B:Addr} {bk:List (List Nat×Sh)} (h:Ui H B bk) (s:Same H H'):Ui H' B bk:=by
 obtain ⟨kvs,h1,h2⟩:=h;exact ⟨kvs,s _ _ h1,h2⟩
theorem Yeb {k:Nat}  (R:g.Raw "_law_due" "_law_due" yu ["_law_ways","_law_many","_law_names","_law_bare"]) (zZ:g.Fn k "_law_ring" ["_law_names","_law_bare"] (Qs g.K)):g.Fn (k+1) "_law_due" ["_law_ways","_law_many","_law_names","_law_bare"] (M8 g.K):=by
 refine R.fn YdY (fun vs H Q E h=>by obtain ⟨W,N,B,ws,bk,n,rfl,hW,hN,hB,hcl,hl,hso,q⟩:=h;rfl) fun f_ cdv A outer s H vs Q E hr h=>?_
 obtain ⟨W,N,B,ws,bk,n,rfl,hW,hN,hB,hcl,hl,hso,q⟩:=h;refine ⟨_,(Yc (Yo (VZ (Yk W8 (pv 1) Ye (Yl _)) (Vk (Yk Xk Ye (pv 0) rfl))).pt (Yd (Yj Ye)) Yi)
   (Yc (Yo (VZ (Yk Xk Ye (pv 0) rfl) (Vk (Yk Xk Ye (pv 0) rfl))).pt (Yd (Yj Ye)) Yi)
   (Yc (Yo (VZ (Yk Xk Ye (pv 0) rfl) (Vk (Yk Xk Ye (Vl Ez (pv 0) (WH Ye) QZ) rfl))).pt (Yd (Yj Ye)) Yi)
   (Yc (Yo (Yk Xk Ye (pv 0) rfl) (Yd (Yj Ye)) Yi)
   (Yc (Yo (Yk Xk Ye (pv 0) rfl) (Yd (Yj Ye)) Yi)
   (Yc (Yo (Yk (vR hr.units) (YM zZ hr (Ya (pv 2) (Ya (pv 3) Yb))) (Xb Yb) (Yl _)) (Yd (Yj Ye)) Yi)
   (Yd (Yj Ye)))))))),?_⟩
 have fl:=VG ws;have ins:∀ m:Nat,inV (.int (m:Int)) (ws.map fun (w:Nat)=>V.int (w:Int))=decide (m∈ws):=fun m=>Qa m ws
 have i7:inV (.int 7) (ws.map fun (w:Nat)=>V.int (w:Int))=decide (7∈ws):=ins 7;have i1:inV (.int 1) (ws.map fun (w:Nat)=>V.int (w:Int))=decide (1∈ws):=ins 1;have i2:inV (.int 2) (ws.map fun (w:Nat)=>V.int (w:Int))=decide (2∈ws):=ins 2;have i4:inV (.int 4) (ws.map fun (w:Nat)=>V.int (w:Int))=decide (4∈ws):=ins 4;have i5:inV (.int 5) (ws.map fun (w:Nat)=>V.int (w:Int))=decide (5∈ws):=ins 5;have i6:inV (.int 6) (ws.map fun (w:Nat)=>V.int (w:Int))=decide (6∈ws):=ins 6;have hd:∀ H',Same H H'->∀ d:Nat,UO ws n (XC bk)=d->Q (.int (d:Nat)) H':=fun H' s d e=>e▸q H' s
 unfold UO at hd;walk_at "rd";refine Yw (fun c=>hd H (.refl _) 0 (if_pos (.inl (by omega)))) fun c8=>⟨_,.inl (au.of hW),rfl,fl,?_⟩
 rw [i7];refine Yw (fun c=>hd H (.refl _) 0 (if_pos (.inr (of_decide_eq_true c)))) fun c7=>⟨_,.inl (au.of hW),rfl,fl,?_⟩
 have n7:¬ (8<n\/7∈ws):=fun z=>z.elim (fun z=>c8 (by omega)) fun z=>c7 (decide_eq_true z)
 rw [if_neg n7] at hd
 rw [i1];refine Yw (fun c=>hd H (.refl _) 1 (if_pos (.inl (of_decide_eq_true c)))) fun c1=>⟨_,.inl (au.of hW),rfl,fl,?_⟩
 rw [i2];refine Yw (fun c=>hd H (.refl _) 1 (if_pos (.inr (of_decide_eq_true c)))) fun c2=>⟨_,.inl (au.of hW),rfl,fl,?_⟩
 have n1:¬ (1∈ws\/2∈ws):=fun z=>z.elim (fun z=>c1 (decide_eq_true z)) fun z=>c2 (decide_eq_true z)
 rw [if_neg n1] at hd
 rw [i4];refine Yw (fun c=>hd H (.refl _) 2 (if_pos (.inl (of_decide_eq_true c)))) fun c4=>⟨_,au.of hW,fun p hp=>?_⟩
 have e1:WI (ws.map fun (w:Nat)=>V.int (w:Int)) (some 1) none=(ws.drop 1).map fun (w:Nat)=>V.int (w:Int):=by
  have h1:WI (ws.map fun (w:Nat)=>V.int (w:Int)) (some 1) none=(ws.map fun (w:Nat)=>V.int (w:Int)).drop 1:=Yg6 _ 1;rw [h1,List.map_drop]
 rw [e1];have u:=Same.ao hp (.lst ((ws.drop 1).map fun (w:Nat)=>V.int (w:Int)));have qg:=u _ _ hW;refine ⟨_,.inl (au.of Yf),rfl,VG _,?_⟩;have i3:inV (.int 3) ((ws.drop 1).map fun (w:Nat)=>V.int (w:Int))=decide (3∈ws.drop 1):=Qa 3 _;rw [i3];refine Yw (fun c=>hd _ u 2 (if_pos (.inr (of_decide_eq_true c)))) fun c3=>⟨_,.inl (au.of qg),rfl,fl,?_⟩
 have n4:¬ (4∈ws\/3∈ws.drop 1):=fun z=>z.elim (fun z=>c4 (decide_eq_true z)) fun z=>c3 (decide_eq_true z)
 rw [if_neg n4] at hd
 rw [i5];refine Yw (fun c=>hd _ u 3 (if_pos (of_decide_eq_true c))) fun c5=>⟨_,.inl (au.of qg),rfl,fl,?_⟩
 rw [if_neg fun z=>c5 (decide_eq_true z)] at hd
 rw [i6];refine Yw (fun c=>hd _ u 4 (if_pos (of_decide_eq_true c))) fun c6=>?_
 rw [if_neg fun z=>c6 (decide_eq_true z)] at hd
 refine ⟨N,B,bk,rfl,u _ _ hN,hB.keep u,hcl,hl,fun R H' s hR=>?_⟩;refine ⟨few (by decide),fun p1 hp1=>⟨_,X5 ((Same.ao hp1 (.lst [])) _ _ hR) (fun x hx=>hso x (M9 hx)),_,X5 (xs:=[]) Yf (by simp),Uh _,?_⟩⟩;rw [Ug (XC bk) []];have u9:=(u.trans s).trans (Same.ao hp1 (.lst []));by_cases c:XC bk=[]
 ·rw [decide_eq_true c]
  exact Xc (by decide) (hd _ u9 6 (if_neg fun z=>z c))
 ·rw [decide_eq_false c]
  exact Xu rfl (hd _ u9 5 (if_pos c))
def Nb (K:PySem.W.Frag):Sp:=fun vs H Q _=>∃ (a N:Addr) (ns:List Int) (ls:List (List Nat)),vs=[.ref a,.ref N]/\au K H a (ns.map V.int)/\ns.length<=63/\H N=some (.lst (aF ls))/\n8 ls/\∀ (R:Addr) (ss:List Sh) H',Same H H'->H' R=some (.lst (aF (ss.map tt)))->ss.length=ls.length->(∀ s∈ss,B7 ls 2 1500 s)->Q (.ref R) H'
theorem Yf3 {ta:TA} {g:TG} {tb:TS} {D:Ends} {σ:St} {H:Hp} {hi:Nat} (Pv:Nat->St->Hp->Prop) (ha:∀ R:List V->Hp->Prop,R [.int 2,.int hi] H->ta σ H R) (hn:hi<2^62) (h0:Pv 0 σ H)
  (hs:∀ i σ' H',i<((hi:Int) - 2).toNat->Pv i σ' H'->g (.int (2+(i:Int))) σ' H' fun σ2 H2=>tb { D with nx:=Pv (i+1),ct:=Pv (i+1),bk:=D.nx } σ2 H2) (hd:∀ σ' H',Pv ((hi:Int) - 2).toNat σ' H'->D.nx σ' H'):oY (DG ta) g tb D σ H :=
 ha _ ⟨2,hi,rfl,⟨by decide,by decide,by omega,by omega⟩,DP Pv h0 hs hd⟩
structure jR (ls:List (List Nat)) (H H':Hp) (D:Addr) (qs:List Addr):Prop where
 sm:Same H H'
 hD:H' D=some (.lst (qs.map V.ref))
 nd:qs.Nodup
 nD:D∉qs
 fD:H D=none
 fr:∀ q∈qs,H q=none
 at_:∀ q∈qs,∃ ps:List Sh,H' q=some (.lst (aF (ps.map tt)))/\ps.length<=12/\∀ p∈ps,B7 ls 1 140 p
theorem jR.keep {ls:List (List Nat)} {H H' aL:Hp} {D:Addr} {qs:List Addr} (h:jR ls H H' D qs) (s:Same H' aL):jR ls H aL D qs:=⟨h.sm.trans s,s _ _ h.hD,h.nd,h.nD,h.fD,h.fr,fun q hq=>by obtain ⟨ps,h1,h2⟩:=h.at_ q hq;exact ⟨ps,s _ _ h1,h2⟩⟩
theorem jR.put {ls:List (List Nat)} {H H':Hp} {D q:Addr} {qs:List Addr} (h:jR ls H H' D qs) (hq:q∈qs) {ps:List Sh} {s:Sh} (hl:ps.length<12) (hb:∀ p∈ps,B7 ls 1 140 p) (hs:B7 ls 1 140 s):jR ls H (upd H' q (.lst (aF (ps.map tt)++[.str (S (tt s))]))) D qs:=by
 have nq:D≠q:=fun z=>h.nD (z▸hq)
 refine ⟨.cu (h.fr q hq) h.sm _,by rw [Yq nq];exact h.hD,h.nd,h.nD,h.fD,h.fr,fun b hb'=>?_⟩;by_cases c:b=q
 ·subst c
  refine ⟨ps++[s],by rw [Yf];simp [aF],by simp;omega,fun p hp=>?_⟩;rcases List.mem_append.mp hp with hp | hp
  ·exact hb p hp
  ·simp at hp;rw [hp];exact hs
 ·rw [Yq c]
  exact h.at_ b hb'
theorem Yiy {α β:Type} {P:α->β->Prop} (h:∀ a,∃ b,P a b):∃ f:α->β,∀ a,P a (f a):=⟨fun a=>Classical.choose (h a),fun a=>Classical.choose_spec (h a)⟩
theorem Ya2 {k:Nat}  (R:g.Raw "_law_shapes" "_law_shapes" yw ["_law_script","_law_names"]) (oM:g.Fn k "_law_part" ["_law_cell","_law_names"] (MF g.K)) (mL:g.Fn k "_law_shape" ["_law_parts","_law_k"] (MJ g.K)) (aA:g.mg "len"=none) (Zv:g.mg "range"=none):g.Fn (k+1) "_law_shapes" ["_law_script","_law_names"] (Nb g.K):=by
 refine R.fn sI (fun vs H Q E h=>by obtain ⟨a,N,ns,ls,rfl,hS,hl,hN,hn,q⟩:=h;rfl) fun f_ cdv A outer s H vs Q E hr h=>?_
 obtain ⟨a,N,ns,ls,rfl,hS,hl,hN,hn,q⟩:=h;refine ⟨_,(Yc (YB (i:=2) sI.nd rfl (.inl rfl) (YJ aA YN (Ya (pv 1) Yb)))
   (Yc (YB (i:=3) sI.nd rfl (.inr rfl) (XQ (g:=YD 0) (src:=[none]) (N':=(["_law_k"]:List Str)) (.own .nil) rfl (XD rfl Zv (Ya (pv 2) Yb)) (fun cl C s₀ H₀ fp pn=>(Yv (i:=0) (show List.Nodup (["_law_k"]:List Str) by decide +kernel) rfl (.inl rfl) (.inr rfl))) (fun cl C s₀ H₀ fp pn=>Y4) (fun cl C s₀ H₀ fp pn=>(Xb Yb)) (by intro x hx;simp at hx)))
   (Yc (Xs PassesOwn.never rfl (Rw rfl Zv (Ya Ye (Ya (YJ aA YN (Ya (pv 0) Yb)) Yb))) (Yv (i:=4) sI.nd rfl (.inl rfl)) (Yd (Yo (Yk US (YJ aA YN (Ya (Yr Xg (pv 3) (Ym Y2 (pv 4) (pv 2)) (fun _ _=>rfl)) Yb)) Ye (Yl _)) (Yd (YY (XF PySem.F.plainAttrs_list PySem.F.slot_list_append PySem.F.type_list_append Wg (Yr Xg (pv 3) (Ym Y2 (pv 4) (pv 2)) (fun _ _=>rfl)) (Ya (YM oM hr (Ya (Ym Y2 (Yr Xg (pv 0) (pv 4) (fun _ _=>rfl)) (Ym Us Ye Ye)) (Ya (pv 1) Yb))) Yb)))) Yi)))
   (Yd (Yj (XQ (g:=YD 0) (src:=[none,some 3]) (N':=(["_law_k","_law_parts"]:List Str)) (.own (.cap (i:=3) rfl rfl (by first | exact .inl rfl | exact .inr rfl) .nil)) rfl (XD rfl Zv (Ya (pv 2) Yb)) (fun cl C s₀ H₀ fp pn=>(Yv (i:=0) (show List.Nodup (["_law_k","_law_parts"]:List Str) by decide +kernel) rfl (.inl rfl) (.inr rfl))) (fun cl C s₀ H₀ fp pn=>Y4) (fun cl C s₀ H₀ fp pn=>(YM mL hr (Ya (Yr (WL (K:=g.K)) (pv 1) (pv 0) (fun _ _=>rfl)) (Ya (pv 0) Yb)))) (by intro x hx;simp at hx;first | (subst hx;exact .inl rfl) | (rcases hx with rfl | rfl<;>exact .inl rfl) | (rcases hx with rfl | rfl | rfl<;>exact .inl rfl) | (rcases hx with rfl | rfl | rfl | rfl<;>exact .inl rfl) | (rcases hx with rfl | rfl | rfl | rfl | rfl<;>exact .inl rfl)))))))),?_⟩
 obtain ⟨n1,n9,nl,nd⟩:=id hn;refine Uw (fun σ' H'=>∃ D qs,jR ls H H' D qs/\qs.length=ls.length/\σ'=[some (.ref a),some (.ref N),some (.int (ls.length:Nat)),some (.ref D),none]) ?_ ?_
 rotate_left
 ·intro Nn hNn
  walk_at "rd";refine ⟨_,.inl (au.of hN),?_⟩;rw [Xi];refine YdP (n:=ls.length) (fun D i zs H'=>∃ qs:List Addr,zs=qs.map V.ref/\qs.length=i/\Same H H'/\H' D=some (.lst zs)/\qs.Nodup/\D∉qs/\∀ q∈qs,H q=none/\H' q=some (.lst [])) (fun R r=>by walk_at "rd";exact r) (by omega) (fun D hD=>⟨[],rfl,rfl,.ao hD _,Yf,List.nodup_nil,by simp,by simp⟩) ?_ ?_ ?_
  ·rintro D i zs H' ⟨qs,rfl,h1,h2,h3,_⟩
   exact ⟨by rw [List.length_map];exact h1,h3⟩
  ·rintro D i zs H' hD hi ⟨qs,rfl,h1,h2,h3,h4,h5,h6⟩ R r
   walk_at "rd";refine ⟨few (by decide),fun p hp=>?_⟩;have u:=Same.ao hp (.lst []);have Nf:p≠D:=fun z=>by rw [z,h3] at hp;cases hp
   refine r (.ref p) _ (u _ _ h3) ⟨qs++[p],by simp,by simp [h1],.cu hD (h2.trans u) _,Yf,?_,?_,?_⟩
   ·refine List.nodup_append.mpr ⟨h4,by simp,fun x hx y hy z=>?_⟩
    simp at hy;rw [z,hy] at hx
    have:=(h6 p hx).2;rw [hp] at this
    cases this
   ·intro z
    rcases List.mem_append.mp z with z | z
    ·exact h5 z
    ·simp at z;exact Nf z.symm
   ·intro q hq
    rcases List.mem_append.mp hq with hq | hq
    ·have nq:q≠D:=fun z=>h5 (z▸hq)
     exact ⟨(h6 q hq).1,by rw [Yq nq];exact u _ _ (h6 q hq).2⟩
    ·simp at hq
     subst hq;exact ⟨h2.free hp,by rw [Yq Nf];exact Yf⟩
  ·rintro D zs H' hD ⟨qs,rfl,h1,h2,h3,h4,h5,h6⟩
   exact hNn _ _ ⟨D,qs,⟨h2,h3,h4,h5,hD,fun q hq=>(h6 q hq).1,fun q hq=>⟨[],(h6 q hq).2,by simp,by simp⟩⟩,h1,rfl⟩
 rintro σ' H1 ⟨D,qs,P1,hqs,rfl⟩;refine Xq (fun σ' H'=>jR ls H H' D qs/\∃ o,σ'=[some (.ref a),some (.ref N),some (.int (ls.length:Nat)),some (.ref D),o]) ?_ ?_
 rotate_left
 ·intro Nn hNn
  refine Yf3 (hi:=ns.length) (fun i σ' H'=>jR ls H H' D qs/\∃ o,σ'=[some (.ref a),some (.ref N),some (.int (ls.length:Nat)),some (.ref D),o]) (fun R r=>by walk_at "rd";exact ⟨_,.inl (P1.sm.seq hS),by rw [List.length_map];exact r⟩) (by omega) ⟨P1,none,rfl⟩ ?_ ?_
  ·rintro i σ' H' hi ⟨P2,o,rfl⟩
   obtain ⟨j,hj,hj2⟩:=Xy (2+(i:Int)) (j:=(ls.length:Int)) (by omega);have hjl:j<qs.length:=by omega
   have e:qs[j]?=some qs[j]:=List.getElem?_eq_getElem hjl;generalize qs[j]=qa at e;have hm:=List.mem_of_getElem? e;obtain ⟨ps,h1,h2,h3⟩:=P2.at_ qa hm;have hat:iC (qs.map V.ref) (j:Int)=some (.ref qa):=Yz (by rw [List.getElem?_map,e];rfl);have hi2:i+2<ns.length:=by omega
   have hns:(ns.map V.int)[i+2]?=some (.int ns[i+2]):=by rw [List.getElem?_map,List.getElem?_eq_getElem hi2];rfl
   have e2:(2+(i:Int))=((i+2:Nat):Int):=by omega
   obtain ⟨c0,hc0,_⟩:=Xy ns[i+2] (j:=10^Int.toNat 45) (by decide);walk_at "rd";rw [hj];refine ⟨by omega,_,au.of P2.hD,_,hat,qa,rfl,_,.inl (au.of h1),Yw (fun c=>?_) fun c=>P2⟩;rw [Xi,List.length_map] at c
   refine ⟨by omega,_,au.of P2.hD,_,hat,.inl ⟨rfl,_,au.of h1⟩,_,P2.sm.seq hS,_,by rw [e2];exact Yz hns,pN,_,rfl,by decide,?_⟩;rw [hc0];exact ⟨c0,N,ls,rfl,P2.sm _ _ hN,hn,fun s H3 s3 hb=>⟨qa,rfl,_,s3 _ _ h1,Nat.lt_of_le_of_lt (show (aF (ps.map tt)).length<=12 by rw [Xi,List.length_map];exact h2) (by decide),(P2.keep s3).put hm (by omega) h3 hb⟩⟩
  ·rintro σ' H' ⟨P2,o,rfl⟩
   exact hNn _ _ ⟨P2,o,rfl⟩
 rintro σ' H2 ⟨P2,o,rfl⟩;have hex:∀ i:Nat,∃ ps:List Sh,∀ q,qs[i]?=some q->H2 q=some (.lst (aF (ps.map tt)))/\ps.length<=12/\∀ p∈ps,B7 ls 1 140 p:=fun i=>by
  cases e:qs[i]? with
  | none=>exact ⟨[],fun q hq=>by cases hq⟩
  | some q =>
   obtain ⟨ps,h⟩:=P2.at_ q (List.mem_of_getElem? e);exact ⟨ps,fun q' hq=>by cases hq;exact h⟩
 obtain ⟨f,hf⟩:=Yiy hex;have z7:∀ i<ls.length,∃ q,qs[i]?=some q/\H2 q=some (.lst (aF ((f i).map tt)))/\(f i).length<=12/\∀ p∈f i,B7 ls 1 140 p:=fun i hi=>by
  have e:qs[i]?=some (qs[i]'(by omega)):=List.getElem?_eq_getElem _;exact ⟨_,e,hf i _ e⟩
 walk_at "rd";refine Wt (n:=ls.length) (aF (((List.range ls.length).map fun i=>qb (f i) i).map tt)) (fun R r=>by walk_at "rd";exact r) (by rw [Xi];simp) (by omega) ?_ ?_
 ·intro i v H3 hi hv sm R r
  have hv:some (V.str (S (tt (qb (f i) i))))=some v:=by
   rw [<- hv,aF,List.getElem?_map,List.getElem?_map,List.getElem?_map,List.getElem?_range hi];rfl
  cases hv
  obtain ⟨q,e,h1,h2,h3⟩:=z7 i hi;walk_at "rd";exact ⟨_,au.of (sm _ _ P2.hD),_,Yz (by rw [List.getElem?_map,e];rfl),q,f i,i,ls,rfl,sm _ _ h1,h2,h3,fun H' s=>r H' s⟩
 ·intro R H3 hR sm hd
  refine q R _ H3 (P2.sm.trans sm) hd (by simp) fun s hs=>?_
  obtain ⟨i,hi,rfl⟩:=List.mem_map.mp hs;have hi:=List.mem_range.mp hi;obtain ⟨_,_,_,_,h3⟩:=z7 i hi;exact Lq i h3
def nms (L n:Nat):List (List Nat):=(List.range n).map fun k=>(if k%2=1 then [110] else [])++[97+(L+k)]
theorem Yiz {L n:Nat} (hL:L<17) (h1:1<=n) (h9:n<=9):n8 (nms L n):=by
 have k1:∀ L:Fin 17,∀ k:Fin 9,Rd.aJ ((if k.val%2=1 then [110] else [])++[97+(L.val+k.val)])=true/\((if k.val%2=1 then [110] else [])++[97+(L.val+k.val)]).length<=2:=by decide +kernel
 have k2:∀ L:Fin 17,∀ n:Fin 10,(nms L.val n.val).Nodup:=by decide +kernel
 refine ⟨by simp [nms];omega,by simp [nms];omega,fun l hl=>?_,k2 ⟨L,hL⟩ ⟨n,by omega⟩⟩;obtain ⟨k,hk,rfl⟩:=List.mem_map.mp hl;have hk:=List.mem_range.mp hk;exact k1 ⟨L,hL⟩ ⟨k,by omega⟩
theorem Dk {i:Nat} (h:i<26):iC (Str.ofString "abcdefghijklmnopqrstuvwxyz").cps.toList (i:Int)=some (97+i):=by
 have:∀ i:Fin 26,iC (Str.ofString "abcdefghijklmnopqrstuvwxyz").cps.toList (i.val:Int)=some (97+i.val):=by decide +kernel
 exact this ⟨i,h⟩
def nV (ws:List Nat):List V:=ws.map fun (w:Nat)=>V.int (w:Int)
structure L7 (H H':Hp) (N Sx W:Addr) (ls:List (List Nat)) (ss:List Sh) (ws:List Nat):Prop where
 sm:Same H H'
 hN:H' N=some (.lst (aF ls))
 hS:H' Sx=some (.lst (aF (ss.map tt)))
 hW:H' W=some (.lst (nV ws))
 fW:H W=none
 nW:W≠N/\W≠Sx
 ok:n8 ls
 sl:ss.length=ls.length
 b7:∀ s∈ss,B7 ls 2 1500 s
 wl:ws.length=ls.length
 w7:∀ w∈ws,w<=7
theorem L7.keep {H H' aL:Hp} {N Sx W:Addr} {ls:List (List Nat)} {ss:List Sh} {ws:List Nat} (h:L7 H H' N Sx W ls ss ws) (s:Same H' aL):L7 H aL N Sx W ls ss ws:=⟨h.sm.trans s,s _ _ h.hN,s _ _ h.hS,s _ _ h.hW,h.fW,h.nW,h.ok,h.sl,h.b7,h.wl,h.w7⟩
theorem L7.put {H H':Hp} {N Sx W:Addr} {ls:List (List Nat)} {ss:List Sh} {ws:List Nat} (h:L7 H H' N Sx W ls ss ws) {j w:Nat} (hw:w<=7):L7 H (upd H' W (.lst ((nV ws).set j (.int (w:Int))))) N Sx W ls ss (ws.set j w):=by
 refine ⟨.cu h.fW h.sm _,by rw [Yq h.nW.1.symm];exact h.hN,by rw [Yq h.nW.2.symm];exact h.hS,?_,h.fW,h.nW,h.ok,h.sl,h.b7,by rw [List.length_set];exact h.wl,fun x hx=>?_⟩
 ·rw [Yf,nV,nV,<- List.map_set]
 ·rcases List.mem_or_eq_of_mem_set hx with hx | hx
  ·exact h.w7 x hx
  ·rw [hx];exact hw
theorem Ng:∀ n:Nat,(List.replicate n [V.int 0]).flatten=nV (List.replicate n 0)
 | 0=>rfl
 | n+1=>by
  rw [List.replicate_succ,List.flatten_cons,Ng n];rfl
theorem Yf4 {n j:Nat} (h:j<n):ju n (j:Int)=some j:=by
 unfold ju;simp [h]
theorem Nh {i:Nat} {r:Str} (hr:r.cps.toList=(List.replicate ((i:Int)%2).toNat (Str.ofString "n").cps.toList).flatten):r=S (if i%2=1 then [110] else []):=by
 refine qX (hr.trans ?_);have e:((i:Int)%2).toNat=i%2:=by omega
 rw [e];rcases Nat.mod_two_eq_zero_or_one i with h | h
 ·rw [h];rfl
 ·rw [h];decide +kernel
section
 variable {ls:List (List Nat)} {ss:List Sh} {ws:List Nat} {fi:List Nat} (sl:ss.length=ls.length) (wl:ws.length=ls.length)
 include sl wl
theorem Pq:(ws.zip (ls.zip ss)).map (·.2.1)=ls:=by
 have e:(ws.zip (ls.zip ss)).map (·.2.1)=((ws.zip (ls.zip ss)).map Prod.snd).map Prod.fst:=by rw [List.map_map];rfl
 rw [e,List.map_snd_zip (by rw [List.length_zip];omega),List.map_fst_zip (by omega)]
theorem qY:d7 (ws.zip (ls.zip ss))=ws:=List.map_fst_zip (by rw [List.length_zip];omega)
theorem tX:(ws.zip (ls.zip ss)).length=ls.length:=by rw [List.length_zip,List.length_zip];omega
theorem z8:(ls.zip ss).map (·.1)=ls/\(ls.zip ss).map (·.2)=ss/\(ls.zip ss).length=ls.length:=⟨List.map_fst_zip (by omega),List.map_snd_zip (by omega),by rw [List.length_zip];omega⟩
theorem Ni (ok:n8 ls) (b7:∀ s∈ss,B7 ls 2 1500 s) (hf:ls.head?=some fi):j5 ls fi (ws.zip (ls.zip ss)):=by
 refine ⟨Pq sl wl,ok.2.2.1,ok.2.2.2,hf,fun i hi=>b7 _ ?_,by rw [tX sl wl];exact ok.2.1⟩;have h1:=(List.of_mem_zip hi).2;exact (List.of_mem_zip h1).2
theorem Pr {i:Nat} (hi:i<ls.length):∃ w nm s,ws[i]?=some w/\ls[i]?=some nm/\ss[i]?=some s/\(ws.zip (ls.zip ss))[i]?=some (w,nm,s):=by
 refine ⟨ws[i]'(by omega),ls[i],ss[i]'(by omega),List.getElem?_eq_getElem _,List.getElem?_eq_getElem _,List.getElem?_eq_getElem _,?_⟩;rw [List.getElem?_zip_eq_some,List.getElem?_zip_eq_some];exact ⟨List.getElem?_eq_getElem _,List.getElem?_eq_getElem _,List.getElem?_eq_getElem _⟩
end
theorem Dl (xs:List (List Nat)):aF xs=(xs.map S).map V.str:=by rw [aF,List.map_map];rfl
theorem Dm {l:List Nat} (h:Rd.aJ l=true):40∉l:=fun z=>by
 have:=(XW h).2 _ z;exact absurd this (by decide)
theorem Nj {ls:List (List Nat)} {s:Sh} (ok:n8 ls) (b:B7 ls 2 1500 s):tt s∈ls↔∃ w,Xv s=some w:=by
 constructor
 ·intro h
  cases e:Xv s with
  | some w=>exact ⟨w,rfl⟩
  | none =>
   have hu:∀ w,s ≠ .use w:=fun w z=>by rw [z] at e;cases e
   have Nk:=Dm (ok.2.2.1 _ h).1;rw [WB b.gd hu] at Nk
   exact (Nk (by simp)).elim
 ·rintro ⟨w,e⟩
  have:=U6 e;subst this;rw [Vu];exact b.us w (by simp [wi])
theorem YiA {ls:List (List Nat)} {ss:List Sh}:∀ {i:Nat} {x:List Nat} {s:Sh},ls.Nodup->ls[i]?=some x->ss[i]?=some s->Y6 (ls.zip ss) x=some s:=by
 induction ls generalizing ss with
 | nil=>intro i x s _ h;simp at h
 | cons l ls ih =>
  intro i x s hn hx hs
  cases ss with
  | nil=>simp at hs
  | cons t ss =>
   rw [List.nodup_cons] at hn
   show Y6 ((l,t)::ls.zip ss) x=some s
   cases i with
   | zero =>
    cases hx;cases hs
    rw [Y6,if_pos rfl]
   | succ i =>
    have hx':ls[i]?=some x:=by simpa using hx
    have hs':ss[i]?=some s:=by simpa using hs
    rw [Y6,if_neg fun z=>hn.1 (by rw [z];exact List.mem_of_getElem? hx')];exact ih hn.2 hx' hs'
theorem Nm (kvs:List (Key×V)) (k:Key) (v:V):(X2 kvs k v).length<=kvs.length+1:=by
 unfold X2
 split
 ·rw [List.length_map];omega
 ·rw [List.length_append];simp
theorem Pu {ls:List (List Nat)} {ss:List Sh} (sl:ss.length=ls.length) (b7:∀ s∈ss,B7 ls 2 1500 s):tW (ls.zip ss):=fun x w h=>by
 rw [List.map_fst_zip (by omega)];unfold br at h
 cases e:Y6 (ls.zip ss) x with
 | none=>rw [e] at h;cases h
 | some s =>
  rw [e] at h
  have hs:=(List.of_mem_zip (W0 e)).2;have:=U6 (show Xv s=some w from h);subst this;exact (b7 _ hs).us w (by simp [wi])
theorem Dn {ls:List (List Nat)} {ss:List Sh} {ws:List Nat} {fi:List Nat} (o:j5 ls fi (ws.zip (ls.zip ss))) (sl:ss.length=ls.length) (wl:ws.length=ls.length) (h3:3∉ws.drop 1) (h4:4∉ws) (h5:5∉ws) (h6:6∉ws):gC fi (ws.zip (ls.zip ss))=ls.zip ss:=by
 have key:∀ a b:List (List Nat×Sh),a.map (·.1)=b.map (·.1)->a.map (·.2)=b.map (·.2)->a=b:=fun a=>by
  induction a with
  | nil=>intro b h _;cases b with
   | nil=>rfl
   | cons y b=>simp at h
  | cons x a ih =>
   intro b h h'
   cases b with
   | nil=>simp at h
   | cons y b =>
    rw [List.map_cons,List.map_cons] at h h'
    injection h with e1 e2
    injection h' with e3 e4
    rw [ih b e2 e4]
    congr 1
    exact Prod.ext e1 e3
 obtain ⟨z1,z2,_⟩:=z8 sl wl;refine key _ _ ?_ ?_
 ·rw [z1]
  exact Uf o (by rw [qY sl wl];exact h3)
 ·rw [z2]
  have e:(gC fi (ws.zip (ls.zip ss))).map (·.2)=(ws.zip (ls.zip ss)).map fun i=>i.2.2:=by
   rw [gC,List.map_map];refine List.map_congr_left fun i hi=>?_
   have hw:=(List.of_mem_zip hi).1
   show rsh i.1 i.2.2=i.2.2
   unfold rsh;rw [if_neg (fun z:i.1=4=>h4 (z▸hw)),if_neg (fun z:i.1=5=>h5 (z▸hw)),if_neg (fun z:i.1=6=>h6 (z▸hw))]
  have e2:(ws.zip (ls.zip ss)).map (fun i=>i.2.2)=((ws.zip (ls.zip ss)).map Prod.snd).map Prod.snd:=by rw [List.map_map];rfl
  rw [e,e2,List.map_snd_zip (by rw [List.length_zip];omega)];exact z2
def SO (l:List Nat):Prop:=∀ c∈l,c<128
theorem SO.app {a b:List Nat} (ha:SO a) (hb:SO b):SO (a++b):=fun c hc=>(List.mem_append.mp hc).elim (ha c) (hb c)
theorem SO.cons {x:Nat} {b:List Nat} (hx:x<128) (hb:SO b):SO (x::b):=fun c hc=>by
 rcases List.mem_cons.mp hc with rfl | hc
 ·exact hx
 ·exact hb c hc
theorem SO.ok {l:List Nat} (h:SO l):PyData.strOk (S l)=true:=Qr fun c hc z=>by have:=h c z;omega
theorem SO.join {g:List Nat} (hg:SO g):∀ {xs:List (List Nat)},(∀ x∈xs,SO x)->SO (Yp g xs)
 | [],_=>fun c hc=>by simp [Yp] at hc
 | [x],h=>h x (.head _)
 | x::y::r,h=>by
  rw [XU];exact ((h x (.head _)).app hg).app (SO.join hg fun z hz=>h z (.tail _ hz))
theorem Np {l:List Nat} (h:Rd.aJ l=true):SO l:=fun c hc=>Classical.byContradiction fun z=>UM (c0:=c) (.inr (.inr (by omega))) ((XW h).2 _ hc) rfl
theorem Nq {s:Sh} (hg:Gd s) (hb:bd s<=6):SO (tt s):=fun c hc=>Classical.byContradiction fun z=>tR (c0:=c) (.inr (.inr (by omega))) hg hb hc
theorem YiB {ls:List (List Nat)} {w:Nat} {nm fi:List Nat} {s:Sh} (b:B7 ls 2 1500 s) (hn:Rd.aJ nm=true) (hf:Rd.aJ fi=true):SO (XM w nm fi s):=by
 have n:=Np hn;have f:=Np hf;have t:∀ w,SO (tt (rsh w s)):=fun w=>Nq (Vy b w).1 (Vy b w).2
 have t0:SO (tt s):=Nq b.gd (Nat.le_trans b.bd (by decide));have hb:∀ j:Nat,j<4->SO (WF.getD j []):=by
  have:∀ j:Fin 4,∀ c∈WF.getD j.val [],c<128:=by decide +kernel
  exact fun j h=>this ⟨j,h⟩
 have m:SO m7:=by rw [QR];unfold SO;decide
 unfold XM
 split
 ·exact n.app t0
 split
 ·exact (hb _ (Nat.mod_lt _ (by decide))).app (.cons (by decide) t0)
 split
 ·exact f.app (.cons (by decide) t0)
 split
 ·exact n.app (.cons (by decide) (t 4))
 split
 ·exact n.app (.cons (by decide) (t 5))
 split
 ·exact n.app (.cons (by decide) (t 6))
 split
 ·exact n.app (.cons (by decide) (m.app (t0.app fun c hc=>by have:=List.eq_of_mem_replicate hc;omega)))
 ·exact n.app (.cons (by decide) t0)
theorem Dp {t:List Nat} (h:SO t):SO (ft t):=by
 unfold ft
 split
 ·rename_i c
  have e:=(Vh c).1;have h1:SO (YQ t++61::aW t):=by rw [<- e];exact h
  refine SO.app (fun c hc=>h1 c (List.mem_append.mpr (.inl hc))) (SO.app (by unfold SO fV;decide) fun c hc=>h1 c (List.mem_append.mpr (.inr (.tail _ hc))))
 ·exact h
section
 variable {ls:List (List Nat)} {fi:List Nat} {its:List jk} (o:j5 ls fi its)
 include o
theorem Nr:∀ r∈Yy fi its,SO r:=fun r hr=>by
 obtain ⟨i,hi,rfl⟩:=List.mem_map.mp hr;exact YiB (o.b7 i hi) (o.bQ _ (zT o hi)).1 (LQ o)
theorem Px:SO (Yp [10] (Yy fi its)):=SO.join (by unfold SO;decide) (Nr o)
end
inductive TD (K:PySem.W.Frag) (H:Hp) (T:List Nat) (fM:List (List Nat×Sh)):V->Nat->Prop
 | no {v:V}:Vr K H v->TD K H T fM v 1
 | cr {t:List Nat}:t.length<=50000->¬ Xw (spl t)->TD K H T fM (.str (S t)) 0
 | nn {t:List Nat}:t.length<=50000->Xw (spl t)->dI (spl t)=none->TD K H T fM (.str (S t)) 1
 | tw {t:List Nat} {bk:List (List Nat×Sh)}:t.length<=50000->Xw (spl t)->dI (spl t)=some bk->¬ iJ bk->TD K H T fM (.str (S t)) 2
 | rg {t:List Nat} {bk:List (List Nat×Sh)}:t.length<=50000->Xw (spl t)->dI (spl t)=some bk->iJ bk->¬ (∀ p∈bk,Range p.2)->TD K H T fM (.str (S t)) 3
 | nm {t:List Nat} {bk:List (List Nat×Sh)}:t.length<=50000->Xw (spl t)->dI (spl t)=some bk->iJ bk->(∀ p∈bk,Range p.2)->¬ WD bk->TD K H T fM (.str (S t)) 4
 | gr {t:List Nat} {bk:List (List Nat×Sh)}:t.length<=50000->Xw (spl t)->dI (spl t)=some bk->iJ bk->(∀ p∈bk,Range p.2)->WD bk->XE bk≠[]->XE bk=XC fM->TD K H T fM (.str (S t)) 5
 | ok {t:List Nat}:t.length<=50000->Xw (spl t)->dI (spl t)=some fM->iJ fM->(∀ p∈fM,Range p.2)->WD fM->XE fM=[]->Yp [10] (je fM)=T->TD K H T fM (.str (S t)) 6
theorem Qb {K:PySem.W.Frag} {H:Hp} {T:List Nat} {fM:List (List Nat×Sh)} {ws:List Nat} {t:List Nat} (h:lZ ws t):((spl t).length<=8/\7∉ws->TD K H T fM (.str (S t)) 1)/\(¬ ((spl t).length<=8/\7∉ws)->TD K H T fM (.str (S t)) 0) :=
 ⟨fun z => .nn h.len (h.cr.mpr z) h.no,fun z => .cr h.len fun w=>z (h.cr.mp w)⟩
theorem YhD {K:PySem.W.Frag} {H:Hp} {ls:List (List Nat)} {ss:List Sh} {ws:List Nat} {fi:List Nat} (o:j5 ls fi (ws.zip (ls.zip ss))) (sl:ss.length=ls.length) (wl:ws.length=ls.length):TD K H (Yp [10] (Yy fi (ws.zip (ls.zip ss)))) (ls.zip ss) (.str (S (Yp [10] (Yy fi (ws.zip (ls.zip ss)))))) (UO ws ls.length (XC (ls.zip ss))):=by
 have hw:=qY (ws:=ws) sl wl;have hz:=tX (ws:=ws) sl wl;have hl:(Yp [10] (Yy fi (ws.zip (ls.zip ss)))).length<=50000:=Nat.le_trans (W2 o).1 (by decide);have hs:=QU o;have cr:=CZ o;rw [hw,hz] at cr
 unfold UO;by_cases c0:8<ls.length\/7∈ws
 ·rw [if_pos c0]
  refine .cr hl fun z=>?_
  rw [hs] at z
  have:=cr.mp z;rcases c0 with c0 | c0
  ·omega
  ·exact this.2 c0
 rw [if_neg c0];have h7:7∉ws:=fun z=>c0 (.inr z)
 have hc:Xw (spl (Yp [10] (Yy fi (ws.zip (ls.zip ss))))):=by rw [hs];exact cr.mpr ⟨Nat.le_of_not_lt fun z=>c0 (.inl z),h7⟩
 by_cases c1:1∈ws\/2∈ws
 ·rw [if_pos c1]
  exact .nn hl hc (by rw [hs];exact Yis o (by rw [hw];exact c1))
 rw [if_neg c1];have h1:1∉ws:=fun z=>c1 (.inl z)
 have h2:2∉ws:=fun z=>c1 (.inr z)
 have hb:dI (spl (Yp [10] (Yy fi (ws.zip (ls.zip ss)))))=some (gC fi (ws.zip (ls.zip ss))):=by rw [hs];exact Yit o (by rw [hw];exact h1) (by rw [hw];exact h2) (by rw [hw];exact h7)
 have jP:=Yiu o;rw [hw] at jP
 by_cases c4:4∈ws\/3∈ws.drop 1
 ·rw [if_pos c4]
  exact .tw hl hc hb fun z=>c4.elim (jP.mp z).1 (jP.mp z).2
 rw [if_neg c4];have h4:4∉ws:=fun z=>c4 (.inl z)
 have h3:3∉ws.drop 1:=fun z=>c4 (.inr z)
 have b2:=jP.mpr ⟨h4,h3⟩;have lY:=Dc o (by rw [hw];exact h4);rw [hw] at lY
 by_cases c5:5∈ws
 ·rw [if_pos c5]
  exact .rg hl hc hb b2 fun z=>lY.mp z c5
 rw [if_neg c5];have rg:=lY.mpr c5;have hnm:=Dd o (by rw [hw];exact h4) (by rw [hw];exact c5) (by rw [hw];exact h3);rw [hw] at hnm
 by_cases c6:6∈ws
 ·rw [if_pos c6]
  exact .nm hl hc hb b2 rg fun z=>hnm.mp z c6
 rw [if_neg c6];have nm:=hnm.mpr c6;have e:=Dn o sl wl h3 h4 c5 c6;have er:XE (gC fi (ws.zip (ls.zip ss)))=XC (ls.zip ss):=by rw [e,YfZ]
 by_cases c:XC (ls.zip ss)=[]
 ·rw [if_neg fun z=>z c]
  rw [e] at hb b2 rg nm er
  refine .ok hl hc hb b2 rg nm (er.trans c) ?_;have k:je (gC fi (ws.zip (ls.zip ss)))=Yy fi (ws.zip (ls.zip ss)):=by
   rw [je,gC,List.map_map,Yy];refine List.map_congr_left fun i hi=>?_
   exact (LR o (by rw [hw];exact h1) (by rw [hw];exact h2) (by rw [hw];exact h7) hi).2.symm
  rw [e] at k
  exact congrArg (Yp [10]) k
 ·rw [if_pos c]
  exact .gr hl hc hb b2 rg nm (by rw [er];exact c) er
inductive qZ (CN CC CT CR CM CG:Addr) (H:Hp) (fM:List (List Nat×Sh)) (d:Nat):V->V->Prop
 | good {F:Addr}:d=6->WC H F fM->qZ CN CC CT CR CM CG H fM d .non (.ref F)
 | bad {b C:Addr} {dc:Option Addr}:H b=some (Wv b (.ref C) dc)->(C=CC/\d=0\/C=CN/\d=1\/C=CT/\d=2\/C=CR/\d=3\/C=CM/\d=4\/C=CG/\d=5)->(d=5->∃ x,dc=some x/\QN H x (XC fM))->qZ CN CC CT CR CM CG H fM d (.ref b) .non
theorem YhE {w:Nat} {nm fi:List Nat} {s:Sh} (hn:nm≠[]):XM w nm fi s≠[]:=by
 unfold XM
 split
 ·simp [hn]
 split
 ·simp
 split
 ·simp
 split
 ·simp
 split
 ·simp
 split
 ·simp
 split
 ·simp
 ·simp
def b6 (d:Nat):List PyData:=[.bool (decide (d=0)),.bool (decide (d=1)),.bool (decide (d=2)),.bool (decide (d=3)),.bool (decide (d=4)),.bool (decide (d=5))]
theorem Nt {K:PySem.W.Frag} {H:Hp} {p:Addr} {d:Nat} (h:H p=some (.lst (six d))):Den K H (.ref p) (.list (b6 d)) := .lst (au.of h) (.cons (.bl _) (.cons (.bl _) (.cons (.bl _) (.cons (.bl _) (.cons (.bl _) (.cons (.bl _) .nil))))))
theorem YiC {d i:Nat} (h:i<6):(six d)[i]?=some (.bl (decide (d=i))):=by
 match i,h with
 | 0,_=>rfl
 | 1,_=>rfl
 | 2,_=>rfl
 | 3,_=>rfl
 | 4,_=>rfl
 | 5,_=>rfl
 | i+6,h=>omega
theorem Nu (d:Nat):PyData.eqv (.list (b6 d)) (.list (b6 d))=true/\(PyData.list (b6 d)).depth<=64:=by
 refine ⟨by simp [b6,PyData.eqv,PyData.eqvAll],by simp [b6,PyData.depth,PyData.depthAll]⟩
theorem Yf5 {k:Nat} {Zg Z0 Z3 Z8 Z5 Z6 Z4:Addr} (mO:g.aK k "read_book" ["text"] (Lb g.K Z0 Z3 Z8 Z5 Z6 Z4)) (mQ:g.Fn k "show_book" ["book"] (K5 g.K)) (tY:g.Fn k "_law_cell_at" ["_law_script","_law_k"] (VX g.K)) (qj:g.Fn k "_law_row" ["_law_name","_law_shape_here","_law_way","_law_first"] (MP g.K)) (mR:g.Fn k "_law_edged" ["_law_text","_law_edge"] (M4 g.K)) (Z50:g.Fn k "_law_edge_due" ["_law_thing","_law_ways"] (tV g.K)) (zZ:g.Fn k "_law_ring" ["_law_names","_law_bare"] (Qs g.K)) (mU:g.Fn k "_law_kinds" ["_law_error"] (M7 g.K Z0 Z3 Z8 Z5 Z6 Z4)) (ql:g.Fn k "_law_due" ["_law_ways","_law_many","_law_names","_law_bare"] (M8 g.K)) (mj:g.Fn k "_law_shapes" ["_law_script","_law_names"] (Nb g.K)) (aY:PySem.W.findIn g.K (.ref Z4) "ring"=some none) (qp:g.mg "ValueError"=none) (Zb:g.mg "isinstance"=none) (gJ:g.mg "list"=none) (Zv:g.mg "range"=none) (fO:g.mg "CountError"=some (.ref Zg)) (aZ:cA g.K Z3) (aQ:cA g.K Z4) (bM:cA g.K Z6) (bN:cA g.K Z0) (bf:cA g.K Z5) (cQ:cA g.K Z8) (bJ:PySem.W.kitOne g.K (.ref Z0) (.type "ValueError")=some true) (bA:PySem.W.kitOne g.K (.ref Z3) (.type "ValueError")=some true) (bZ:PySem.W.kitOne g.K (.ref Z8) (.type "ValueError")=some true) (bB:PySem.W.kitOne g.K (.ref Z5) (.type "ValueError")=some true) (bK:PySem.W.kitOne g.K (.ref Z6) (.type "ValueError")=some true) (bh:PySem.W.kitOne g.K (.ref Z4) (.type "ValueError")=some true) (aX:PySem.W.exmOne g.K (.ref Z0) (.ref Zg)=some true) (bC:PySem.W.exmOne g.K (.ref Z3) (.ref Zg)=some true) (cg:PySem.W.exmOne g.K (.ref Z8) (.ref Zg)=some true) (bD:PySem.W.exmOne g.K (.ref Z5) (.ref Zg)=some true) (bL:PySem.W.exmOne g.K (.ref Z6) (.ref Zg)=some true) (bw:PySem.W.exmOne g.K (.ref Z4) (.ref Zg)=some true):Ql g k ["_law_script","_law_many","_law_letter","_law_names","_law_shapes_here","_law_spoil","_law_ways","_law_text","_law_bare","_law_k","_law_due_here","_law_thing","_law_error","_law_found","e"] "law" sJ (QD g.K):=by
 refine fun f_ cdv A outer s H vs Q E hr h=>?_
 obtain ⟨a,ns,rfl,hS,hl,q⟩:=h;have hu:=UV hr;refine ⟨_,(@Yc _ _ _ _ _ (@YB _ _ (1) _ _ _ _ Xm.nd rfl (.inl rfl) (@Ym _ _ _ _ _ _ _ _ Ur Ye (@Ym _ _ _ _ _ _ _ _ Y2 (@YM _ _ _ _ _ _ _ _ _ _ _ _ tY hr (@Ya _ _ _ _ _ (pv 0) (@Ya _ _ _ _ _ Ye Yb (by rfl)) (by rfl)) (by omega) (by rfl) (by rfl) (by decide) (by rfl) (by rfl)) Ye)) (by rfl) (by first | exact .inl rfl | exact .inr rfl | assumption)) (@Yc _ _ _ _ _ (@YB _ _ (2) _ _ _ _ Xm.nd rfl (.inr rfl) (@Ym _ _ _ _ _ _ _ _ Y2 (@Ym _ _ _ _ _ _ _ _ X3 (@YM _ _ _ _ _ _ _ _ _ _ _ _ tY hr (@Ya _ _ _ _ _ (pv 0) (@Ya _ _ _ _ _ Ye Yb (by rfl)) (by rfl)) (by omega) (by rfl) (by rfl) (by decide) (by rfl) (by rfl)) Ye) Ye) (by rfl) (by first | exact .inl rfl | exact .inr rfl | assumption)) (@Yc _ _ _ _ _ (@YB _ _ (3) _ _ _ _ Xm.nd rfl (.inr rfl) (@XQ _ _ _ _ _ _ _ ([none,some 2]) ((["_law_k","_law_letter"]:List Str)) _ (YD 0) _ _ (.own (.cap (i:=2) rfl rfl (by first | exact .inl rfl | exact .inr rfl) .nil)) rfl (@XD _ _ _ _ _ _ rfl Zv (@Ya _ _ _ _ _ (pv 1) Yb (by rfl)) (by rfl)) (fun cl C s₀ H₀ fp pn=>(@Yv _ _ (0) _ (show List.Nodup (["_law_k","_law_letter"]:List Str) by decide +kernel) rfl (.inl rfl) (.inr rfl))) (fun cl C s₀ H₀ fp pn=>Y4) (fun cl C s₀ H₀ fp pn=>(@Ym _ _ _ _ _ _ _ _ Yn (@Ym _ _ _ _ _ _ _ _ Q6 Yg (@Ym _ _ _ _ _ _ _ _ Y2 (pv 0) Ye)) (@Yr _ _ _ _ _ _ _ vp Yg (@Ym _ _ _ _ _ _ _ _ Ur (pv 1) (pv 0)) (fun _ _=>rfl)))) (by intro x hx;simp at hx;first | (subst hx;exact .inl rfl) | (rcases hx with rfl | rfl<;>exact .inl rfl) | (rcases hx with rfl | rfl | rfl<;>exact .inl rfl) | (rcases hx with rfl | rfl | rfl | rfl<;>exact .inl rfl) | (rcases hx with rfl | rfl | rfl | rfl | rfl<;>exact .inl rfl)) (by rfl) (by decide) (by decide +kernel) (by intro _;rfl)) (by rfl) (by first | exact .inl rfl | exact .inr rfl | assumption)) (@Yc _ _ _ _ _ (@YB _ _ (4) _ _ _ _ Xm.nd rfl (.inr rfl) (@YM _ _ _ _ _ _ _ _ _ _ _ _ mj hr (@Ya _ _ _ _ _ (pv 0) (@Ya _ _ _ _ _ (pv 3) Yb (by rfl)) (by rfl)) (by omega) (by rfl) (by rfl) (by decide) (by rfl) (by rfl)) (by rfl) (by first | exact .inl rfl | exact .inr rfl | assumption)) (@Yc _ _ _ _ _ (@YB _ _ (5) _ _ _ _ Xm.nd rfl (.inl rfl) (@Ym _ _ _ _ _ _ _ _ Y2 (@YM _ _ _ _ _ _ _ _ _ _ _ _ tY hr (@Ya _ _ _ _ _ (pv 0) (@Ya _ _ _ _ _ Ye Yb (by rfl)) (by rfl)) (by omega) (by rfl) (by rfl) (by decide) (by rfl) (by rfl)) (@Ym _ _ _ _ _ _ _ _ Us Ye Ye)) (by rfl) (by first | exact .inl rfl | exact .inr rfl | assumption)) (@Yc _ _ _ _ _ (@YB _ _ (6) _ _ _ _ Xm.nd rfl (.inr rfl) (@Ym _ _ _ _ _ _ _ _ S5 (@Xb _ _ _ _ (@Ya _ _ _ _ _ Ye Yb (by rfl))) (pv 1)) (by rfl) (by first | exact .inl rfl | exact .inr rfl | assumption)) (@Yc _ _ _ _ _ (@Yo _ _ _ _ _ _ _ _ (@Yk _ _ _ _ _ _ _ _ W8 (@Ym _ _ _ _ _ _ _ _ Y2 (pv 5) Ye) Ye (Yl _)) (@Yd _ _ _ (@Dv _ _ _ _ _ _ (@Ym _ _ _ _ _ _ _ _ Ur Ye (@Ym _ _ _ _ _ _ _ _ Y2 (@Ym _ _ _ _ _ _ _ _ X3 (pv 5) Ye) Ye)) (@Du _ _ _ _ _ _ _ (pv 6) (@Ym _ _ _ _ _ _ _ _ Y2 (@Ym _ _ _ _ _ _ _ _ X3 (pv 5) Ye) (pv 1)) Ey (by intro _;rfl)) (by rfl) (by rfl) (by rfl))) Yi) (@Yc _ _ _ _ _ (@Yo _ _ _ _ _ _ _ _ (@Yk _ _ _ _ _ _ _ _ W8 (@Ym _ _ _ _ _ _ _ _ Y2 (pv 5) Ye) Ye (Yl _)) (@Yd _ _ _ (@Dv _ _ _ _ _ _ (@Ym _ _ _ _ _ _ _ _ Ur Ye (@Ym _ _ _ _ _ _ _ _ Y2 (@Ym _ _ _ _ _ _ _ _ X3 (pv 5) Ye) Ye)) (@Du _ _ _ _ _ _ _ (pv 6) (@Ym _ _ _ _ _ _ _ _ Y2 (@Ym _ _ _ _ _ _ _ _ X3 (pv 5) Ye) (pv 1)) Ey (by intro _;rfl)) (by rfl) (by rfl) (by rfl))) Yi) (@Yc _ _ _ _ _ (@YB _ _ (7) _ _ _ _ Xm.nd rfl (.inl rfl) (@XF _ _ _ _ _ _ _ _ _ _ _ _ PySem.F.plainAttrs_str PySem.F.slot_str_join PySem.F.type_str_join VS Yg (@Ya _ _ _ _ _ (@XQ _ _ _ _ _ _ _ ([none,some 3,some 4,some 6]) ((["_law_k","_law_names","_law_shapes_here","_law_ways"]:List Str)) _ (YD 0) _ _ (.own (.cap (i:=3) rfl rfl (by first | exact .inl rfl | exact .inr rfl) (.cap (i:=4) rfl rfl (by first | exact .inl rfl | exact .inr rfl) (.cap (i:=6) rfl rfl (by first | exact .inl rfl | exact .inr rfl) .nil)))) rfl (@XD _ _ _ _ _ _ rfl Zv (@Ya _ _ _ _ _ (pv 1) Yb (by rfl)) (by rfl)) (fun cl C s₀ H₀ fp pn=>(@Yv _ _ (0) _ (show List.Nodup (["_law_k","_law_names","_law_shapes_here","_law_ways"]:List Str) by decide +kernel) rfl (.inl rfl) (.inr rfl))) (fun cl C s₀ H₀ fp pn=>Y4) (fun cl C s₀ H₀ fp pn=>(@YM _ _ _ _ _ _ _ _ _ _ _ _ qj hr (@Ya _ _ _ _ _ (@Yr _ _ _ _ _ _ _ (WL (K:=g.K)) (pv 1) (pv 0) (fun _ _=>rfl)) (@Ya _ _ _ _ _ (@Yr _ _ _ _ _ _ _ (WL (K:=g.K)) (pv 2) (pv 0) (fun _ _=>rfl)) (@Ya _ _ _ _ _ (@Yr _ _ _ _ _ _ _ (WL (K:=g.K)) (pv 3) (pv 0) (fun _ _=>rfl)) (@Ya _ _ _ _ _ (@Yr _ _ _ _ _ _ _ (WL (K:=g.K)) (pv 1) Ye (fun _ _=>rfl)) Yb (by rfl)) (by rfl)) (by rfl)) (by rfl)) (by omega) (by rfl) (by rfl) (by decide) (by rfl) (by rfl))) (by intro x hx;simp at hx;first | (subst hx;exact .inl rfl) | (rcases hx with rfl | rfl<;>exact .inl rfl) | (rcases hx with rfl | rfl | rfl<;>exact .inl rfl) | (rcases hx with rfl | rfl | rfl | rfl<;>exact .inl rfl) | (rcases hx with rfl | rfl | rfl | rfl | rfl<;>exact .inl rfl)) (by rfl) (by decide) (by decide +kernel) (by intro _;rfl)) Yb (by rfl)) (by rfl) (by rfl) (by rfl) (by rfl) (by rfl)) (by rfl) (by first | exact .inl rfl | exact .inr rfl | assumption)) (@Yc _ _ _ _ _ (@YB _ _ (8) _ _ _ _ Xm.nd rfl (.inl rfl) YfG (by rfl) (by first | exact .inl rfl | exact .inr rfl | assumption)) (@Yc _ _ _ _ _ (@Xs _ _ _ _ _ _ _ _ PassesOwn.never rfl (@XD _ _ _ _ _ _ rfl Zv (@Ya _ _ _ _ _ (pv 1) Yb (by rfl)) (by rfl)) (@Yv _ _ (9) _ Xm.nd rfl (.inl rfl) (by first | exact .inl rfl | exact .inr rfl | assumption)) (@Yc _ _ _ _ _ (@Fy _ _ _ _ _ _ _ _ _ (UV hr) (pv 8) (@Yr _ _ _ _ _ _ _ Xg (pv 3) (pv 9) (fun _ _=>rfl)) Wn rfl) (@Yd _ _ _ (@Yo _ _ _ _ _ _ _ _ (@Yk _ _ _ _ _ _ _ _ Xk (@Yr _ _ _ _ _ _ _ Xg (pv 4) (pv 9) (fun _ _=>rfl)) (pv 3) rfl) (@Yd _ _ _ (@Fy _ _ _ _ _ _ _ _ _ (UV hr) (pv 8) (@Yr _ _ _ _ _ _ _ Xg (pv 3) (pv 9) (fun _ _=>rfl)) (@Yr _ _ _ _ _ _ _ Xg (pv 4) (pv 9) (fun _ _=>rfl)) rfl)) Yi))) (by intro _;rfl)) (@Yc _ _ _ _ _ (@YB _ _ (10) _ _ _ _ Xm.nd rfl (.inr rfl) (@YM _ _ _ _ _ _ _ _ _ _ _ _ ql hr (@Ya _ _ _ _ _ (pv 6) (@Ya _ _ _ _ _ (pv 1) (@Ya _ _ _ _ _ (pv 3) (@Ya _ _ _ _ _ (pv 8) Yb (by rfl)) (by rfl)) (by rfl)) (by rfl)) (by omega) (by rfl) (by rfl) (by decide) (by rfl) (by rfl)) (by rfl) (by first | exact .inl rfl | exact .inr rfl | assumption)) (@Yc _ _ _ _ _ (@YB _ _ (11) _ _ _ _ Xm.nd rfl (.inl rfl) (@YM _ _ _ _ _ _ _ _ _ _ _ _ mR hr (@Ya _ _ _ _ _ (pv 7) (@Ya _ _ _ _ _ (@Ym _ _ _ _ _ _ _ _ Y2 (@Ym _ _ _ _ _ _ _ _ X3 (@YM _ _ _ _ _ _ _ _ _ _ _ _ tY hr (@Ya _ _ _ _ _ (pv 0) (@Ya _ _ _ _ _ Ye Yb (by rfl)) (by rfl)) (by omega) (by rfl) (by rfl) (by decide) (by rfl) (by rfl)) Ye) Ye) Yb (by rfl)) (by rfl)) (by omega) (by rfl) (by rfl) (by decide) (by rfl) (by rfl)) (by rfl) (by first | exact .inl rfl | exact .inr rfl | assumption)) (@Yc _ _ _ _ _ (@Yo _ _ _ _ _ _ _ _ (@Yk _ _ _ _ _ _ _ _ (vR hr.units) (pv 11) (pv 7) (Yl _)) (@Yd _ _ _ (@YB _ _ (10) _ _ _ _ Xm.nd rfl (.inr rfl) (@YM _ _ _ _ _ _ _ _ _ _ _ _ Z50 hr (@Ya _ _ _ _ _ (pv 11) (@Ya _ _ _ _ _ (pv 6) Yb (by rfl)) (by rfl)) (by omega) (by rfl) (by rfl) (by decide) (by rfl) (by rfl)) (by rfl) (by first | exact .inl rfl | exact .inr rfl | assumption))) Yi) (@Yc _ _ _ _ _ (@YB _ _ (12) _ _ _ _ Xm.nd rfl (.inl rfl) Wn (by rfl) (by first | exact .inl rfl | exact .inr rfl | assumption)) (@Yc _ _ _ _ _ (@YB _ _ (13) _ _ _ _ Xm.nd rfl (.inl rfl) Wn (by rfl) (by first | exact .inl rfl | exact .inr rfl | assumption)) (@Yc _ _ _ _ _ (@YfI _ _ _ _ (13) (14) _ _ _ _ _ _ _ _ _ _ _ _ _ _ _ _ _ _ _ _ mO hr Xm.nd rfl (.inl rfl) rfl rfl (@Ya _ _ _ _ _ (pv 11) Yb (by rfl)) fO (fun _=>(@Yd _ _ _ (@YB _ _ (12) _ _ _ _ Xm.nd rfl (.inl rfl) (pv 14) (by rfl) (by first | exact .inl rfl | exact .inr rfl | assumption)))) (by omega) (by rfl) (by rfl) (by rfl) (by rfl) (by rfl) (by decide) (by decide) (by rfl) (by rfl) (by rfl) (by first | exact .inl rfl | exact .inr rfl)) (@Yc _ _ _ _ _ (@Yo _ _ _ _ _ _ _ _ (@Yk _ _ _ _ _ _ _ _ YG (pv 10) Ye (Yl _)) (@Yd _ _ _ (@Yj _ _ _ _ (@Uo _ _ _ _ _ _ _ (@XI _ _ _ _ _ _ _ _ Ea (pv 12) Wn (Yl _)) (@Uo _ _ _ _ _ _ _ (@XI _ _ _ _ _ _ _ _ (vQ hr.units) (@XQ _ _ _ _ _ _ _ ([none,none]) ((["_law_name","_law_shape_here"]:List Str)) _ (Wp g.K 2 (Y5 (YD 0) (Y5 (YD 1) Wo))) _ _ (.own (.own .nil)) rfl (@Y9 _ _ _ _ (pv 13)) (fun cl C s₀ H₀ fp pn=>(@X8 _ _ _ _ _ (2) rfl (@YW _ _ _ _ _ (@Yv _ _ (0) _ (show List.Nodup (["_law_name","_law_shape_here"]:List Str) by decide +kernel) rfl (.inl rfl) (.inr rfl)) (@YW _ _ _ _ _ (@Yv _ _ (1) _ (show List.Nodup (["_law_name","_law_shape_here"]:List Str) by decide +kernel) rfl (.inl rfl) (.inr rfl)) XX (by rfl)) (by rfl)) (by rfl) (by rfl))) (fun cl C s₀ H₀ fp pn=>Y4) (fun cl C s₀ H₀ fp pn=>(pv 0)) (by intro x hx;simp at hx) (by rfl) (by decide) (by decide +kernel) (by intro _;rfl)) (pv 3) (Yl _)) (@WV _ _ _ _ _ (@XI _ _ _ _ _ _ _ _ YG (@YM _ _ _ _ _ _ _ _ _ _ _ _ mQ hr (@Ya _ _ _ _ _ (pv 13) Yb (by rfl)) (by omega) (by rfl) (by rfl) (by decide) (by rfl) (by rfl)) (pv 7) (Yl _))))))) Yi) (@Yc _ _ _ _ _ (@Yo _ _ _ _ _ _ _ _ (@VZ _ _ _ _ _ _ _ (@Xr _ _ _ _ (@Xd _ _ _ (@YJ _ _ _ _ _ _ _ _ _ _ Zb (XB (K:=g.K) (Yt bN (Yt aZ (Yt cQ (Yt bf (Yt bM (Yt aQ WP))))))) (@Ya _ _ _ _ _ (pv 12) (@Ya _ _ _ _ _ (@QC _ _ _ _ ("ValueError") qp (by decide +kernel) (by rfl) (by rfl) (by decide) (by decide)) Yb (by rfl)) (by rfl)) (by decide +kernel) (by rfl) (by rfl) (by decide) (by decide) (by rfl) (by rfl)) (by intro _;rfl))) (@Vk _ _ _ _ (@Yk _ _ _ _ _ _ _ _ (vR hr.units) (@YM _ _ _ _ _ _ _ _ _ _ _ _ mU hr (@Ya _ _ _ _ _ (pv 12) Yb (by rfl)) (by omega) (by rfl) (by rfl) (by decide) (by rfl) (by rfl)) (@XQ _ _ _ _ _ _ _ ([none,some 10]) ((["_law_k","_law_due_here"]:List Str)) _ (YD 0) _ _ (.own (.cap (i:=10) rfl rfl (by first | exact .inl rfl | exact .inr rfl) .nil)) rfl (@XD _ _ _ _ _ _ rfl Zv (@Ya _ _ _ _ _ Ye Yb (by rfl)) (by rfl)) (fun cl C s₀ H₀ fp pn=>(@Yv _ _ (0) _ (show List.Nodup (["_law_k","_law_due_here"]:List Str) by decide +kernel) rfl (.inl rfl) (.inr rfl))) (fun cl C s₀ H₀ fp pn=>Y4) (fun cl C s₀ H₀ fp pn=>(@XI _ _ _ _ _ _ _ _ YG (pv 1) (pv 0) (Yl _))) (by intro x hx;simp at hx;first | (subst hx;exact .inl rfl) | (rcases hx with rfl | rfl<;>exact .inl rfl) | (rcases hx with rfl | rfl | rfl<;>exact .inl rfl) | (rcases hx with rfl | rfl | rfl | rfl<;>exact .inl rfl) | (rcases hx with rfl | rfl | rfl | rfl | rfl<;>exact .inl rfl)) (by rfl) (by decide) (by decide +kernel) (by intro _;rfl)) (Yl _)))).pt (@Yd _ _ _ (@Yj _ _ _ _ W7)) Yi) (@Yd _ _ _ (@Yj _ _ _ _ (@Qt _ _ _ _ _ _ _ (@XI _ _ _ _ _ _ _ _ US (pv 10) Ye (Yl _)) (@WV _ _ _ _ _ (@Uo _ _ _ _ _ _ _ (@YJ _ _ _ _ _ _ _ _ _ _ Zb WU (@Ya _ _ _ _ _ (@Hl _ _ _ _ _ _ _ aQ aY (pv 12) (by rfl) (by rfl)) (@Ya _ _ _ _ _ (@QC _ _ _ _ ("list") gJ (by decide +kernel) (by rfl) (by rfl) (by decide) (by decide)) Yb (by rfl)) (by rfl)) (by decide +kernel) (by rfl) (by rfl) (by decide) (by decide) (by rfl) (by rfl)) (@WV _ _ _ _ _ (@XI _ _ _ _ _ _ _ _ (vQ hr.units) (@Hl _ _ _ _ _ _ _ aQ aY (pv 12) (by rfl) (by rfl)) (@YM _ _ _ _ _ _ _ _ _ _ _ _ zZ hr (@Ya _ _ _ _ _ (pv 3) (@Ya _ _ _ _ _ (pv 8) Yb (by rfl)) (by rfl)) (by omega) (by rfl) (by rfl) (by decide) (by rfl) (by rfl)) (Yl _))))))))))))))))))))))))))),?_⟩;have cell:∀ (k:Nat) (H':Hp) (Q':VK),Same H H'->Q' (.int (ns.getD k 0)) H'->VX g.K [.ref a,.int k] H' Q' E0:=fun k H' Q' s h=>⟨a,ns,k,rfl,s.seq hS,hl,h⟩
 have c0:∀ (H':Hp) (Q':VK),Same H H'->Q' (.int (ns.getD 0 0)) H'->VX g.K [.ref a,.int 0] H' Q' E0:=cell 0;have c1:∀ (H':Hp) (Q':VK),Same H H'->Q' (.int (ns.getD 1 0)) H'->VX g.K [.ref a,.int 1] H' Q' E0:=cell 1;refine Uw (fun σ H'=>H'=H/\∃ n L:Nat,1<=n/\n<=9/\L<17/\σ=[some (.ref a),some (.int (n:Nat)),some (.int (L:Nat)),none,none,none,none,none,none,none,none,none,none,none,none]) ?_ ?_
 rotate_left
 ·intro Nn hNn
  obtain ⟨x,hx,hx2⟩:=Xy (ns.getD 0 0) (j:=9) (by decide);obtain ⟨L,hL,hL2⟩:=Xy (ns.getD 0 0 / 9) (j:=17) (by decide);walk_at "rd";refine c0 _ _ (.refl _) ⟨_,rfl,by decide,c0 _ _ (.refl _) ⟨_,rfl,XN (by decide) (by decide),by decide,?_⟩⟩;rw [hx,hL];exact hNn _ _ ⟨rfl,1+x,L,by omega,by omega,by omega,by simp⟩
 rintro σ H' ⟨e,n,L,hn1,hn9,hL,rfl⟩;subst e;have ok:=Yiz hL hn1 hn9;have nl:(nms L n).length=n:=by simp [nms]
 refine Xq (fun σ H1=>Same H' H1/\∃ N,H1 N=some (.lst (aF (nms L n)))/\σ=[some (.ref a),some (.int (n:Nat)),some (.int (L:Nat)),some (.ref N),none,none,none,none,none,none,none,none,none,none,none]) ?_ ?_
 rotate_left
 ·intro Nn hNn
  walk_at "rd";refine Wt (n:=n) (aF (nms L n)) (fun R r=>by walk_at "rd";exact r) (by rw [Xi,nl]) (by omega) ?_ ?_
  ·intro i v H2 hi hv sm R r
   have hv:some (V.str (S ((if i%2=1 then [110] else [])++[97+(L+i)])))=some v:=by
    rw [<- hv,aF,nms,List.getElem?_map,List.getElem?_map,List.getElem?_range hi];rfl
   cases hv
   have eL:((L:Int)+(i:Int))=((L+i:Nat):Int):=by omega
   walk_at "rd";refine ⟨by decide,by omega,by omega,by decide,fun z hz=>⟨_,_,_,rfl,rfl,few (by decide),by rw [eL];exact Dk (by omega),_,rfl,?_,?_⟩⟩
   ·rw [Nh hz,QV,Ys,Ys]
    refine few ?_
    split<;>simp
   ·rw [Nh hz,QV,YE]
    exact r H2 (.refl _)
  ·intro D H2 hD sm hd
   exact hNn _ _ ⟨sm,D,hd,rfl⟩
 rintro σ H1 ⟨s1,N,hN,rfl⟩;generalize hls:nms L n=ls at *;refine Xq (fun σ H2=>Same H' H2/\∃ (Sx:Addr) (ss:List Sh),H2 N=some (.lst (aF ls))/\H2 Sx=some (.lst (aF (ss.map tt)))/\ss.length=ls.length/\(∀ s∈ss,B7 ls 2 1500 s)/\σ=[some (.ref a),some (.int (n:Nat)),some (.int (L:Nat)),some (.ref N),some (.ref Sx),none,none,none,none,none,none,none,none,none,none]) ?_ ?_
 rotate_left
 ·intro Nn hNn
  walk_at "rd";exact ⟨a,N,ns,ls,rfl,s1.seq hS,hl,hN,ok,fun Sx ss H2 s2 h1 h2 h3=>hNn _ _ ⟨s1.trans s2,Sx,ss,s2 _ _ hN,h1,h2,h3,rfl⟩⟩
 rintro σ H2 ⟨s2,Sx,ss,Nv,Nx,hsl,hb7,rfl⟩;refine Uw (fun σ H3=>∃ (W:Addr) (ws:List Nat) (sp:Nat),L7 H' H3 N Sx W ls ss ws/\σ=[some (.ref a),some (.int (n:Nat)),some (.int (L:Nat)),some (.ref N),some (.ref Sx),some (.int (sp:Nat)),some (.ref W),none,none,none,none,none,none,none,none]) ?_ ?_
 rotate_left
 ·intro Nn hNn
  obtain ⟨sp,hsp,_⟩:=Xy (ns.getD 1 0) (j:=10^Int.toNat 9) (by decide);walk_at "rd";refine c1 _ _ s2 ⟨pN,_,rfl,by decide,few (by decide),fun p hp=>?_⟩;rw [hsp];have u1:=Same.ao hp (.lst [V.int 0]);refine ⟨p,n,[.int 0],rfl,rfl,Yf,by omega,by omega,by simp;exact few (by omega),fun p2 hp2=>?_⟩;have u2:=Same.ao hp2 (.lst (List.replicate ((n:Nat):Int).toNat [V.int 0]).flatten);refine hNn _ _ ⟨p2,List.replicate n 0,sp,⟨s2.trans (u1.trans u2),u2 _ _ (u1 _ _ Nv),u2 _ _ (u1 _ _ Nx),by rw [Yf,Int.toNat_natCast,Ng],(s2.trans u1).free hp2,⟨fun z=>?_,fun z=>?_⟩,ok,hsl,hb7,by rw [List.length_replicate,<- nl],fun w hw=>by have:=List.eq_of_mem_replicate hw;omega⟩,rfl⟩
  ·rw [z,u1 _ _ Nv] at hp2;cases hp2
  ·rw [z,u1 _ _ Nx] at hp2;cases hp2
 rintro σ H3 ⟨W,ws,sp,l7,rfl⟩;have put:∀ (H3:Hp) (ws:List Nat) (j m:Nat) (Q':St->Hp->Prop),L7 H' H3 N Sx W ls ss ws->j<7->m<n->(∀ ws' H4,L7 H' H4 N Sx W ls ss ws'->Q' [some (.ref a),some (.int (n:Nat)),some (.int (L:Nat)),some (.ref N),some (.ref Sx),some (.int (sp:Nat)),some (.ref W),none,none,none,none,none,none,none,none] H4)->∃ x,H3 W=some (.lst x)/\∃ i,ju x.length ((m:Nat):Int)=some i/\Q' [some (.ref a),some (.int (n:Nat)),some (.int (L:Nat)),some (.ref N),some (.ref Sx),some (.int (sp:Nat)),some (.ref W),none,none,none,none,none,none,none,none] (upd H3 W (.lst (x.set i (.int (1+(j:Int)))))):=fun H3 ws j m Q' l7 hj hm h=>by
  refine ⟨_,l7.hW,m,Yf4 (by rw [nV,List.length_map,l7.wl,nl];exact hm),?_⟩;have:=l7.put (j:=m) (w:=1+j) (by omega);have e:((1+j:Nat):Int)=1+(j:Int):=by omega
  rw [e] at this
  exact h _ _ this
 refine Xq (fun σ H3=>∃ ws:List Nat,L7 H' H3 N Sx W ls ss ws/\σ=[some (.ref a),some (.int (n:Nat)),some (.int (L:Nat)),some (.ref N),some (.ref Sx),some (.int (sp:Nat)),some (.ref W),none,none,none,none,none,none,none,none]) ?_ ?_
 rotate_left
 ·intro Nn hNn
  obtain ⟨j,hj,hj2⟩:=Xy ((sp:Int) / 81) (j:=7) (by decide);obtain ⟨m,hm,hm2⟩:=Xy ((sp:Int) / 9) (j:=(n:Int)) (by omega);walk_at "rd";rw [hj,hm];refine ⟨by decide,Yw (fun c=>⟨XN (by decide) (by decide),by decide,XN (by decide) (by decide),by omega,put _ ws j m Nn l7 (by omega) (by omega) fun ws' H4 h=>hNn _ _ ⟨ws',h,rfl⟩⟩) fun c=>hNn _ _ ⟨ws,l7,rfl⟩⟩
 clear l7;rintro σ H4 ⟨Ny,l7,rfl⟩;refine Xq (fun σ H3=>∃ ws:List Nat,L7 H' H3 N Sx W ls ss ws/\σ=[some (.ref a),some (.int (n:Nat)),some (.int (L:Nat)),some (.ref N),some (.ref Sx),some (.int (sp:Nat)),some (.ref W),none,none,none,none,none,none,none,none]) ?_ ?_
 rotate_left
 ·intro Nn hNn
  obtain ⟨j,hj,hj2⟩:=Xy ((sp:Int) / 5103) (j:=7) (by decide);obtain ⟨m,hm,hm2⟩:=Xy ((sp:Int) / 567) (j:=(n:Int)) (by omega);walk_at "rd";rw [hj,hm];refine ⟨by decide,Yw (fun c=>⟨XN (by decide) (by decide),by decide,XN (by decide) (by decide),by omega,put _ Ny j m Nn l7 (by omega) (by omega) fun ws' H4 h=>hNn _ _ ⟨ws',h,rfl⟩⟩) fun c=>hNn _ _ ⟨Ny,l7,rfl⟩⟩
 clear l7;rintro σ H5 ⟨fC,l7,rfl⟩;obtain ⟨n1,n9,oN,Nz⟩:=id ok;have hfi:∃ fi,ls.head?=some fi:=by
  cases ls with
  | nil=>simp at n1
  | cons x r=>exact ⟨x,rfl⟩
 obtain ⟨fi,hfi⟩:=hfi;refine Xq (fun σ H6=>L7 H' H6 N Sx W ls ss fC/\σ=[some (.ref a),some (.int (n:Nat)),some (.int (L:Nat)),some (.ref N),some (.ref Sx),some (.int (sp:Nat)),some (.ref W),some (.str (S (Yp [10] (Yy fi (fC.zip (ls.zip ss)))))),none,none,none,none,none,none,none]) ?_ ?_
 rotate_left
 ·intro Nn hNn
  have its:=Ni l7.sl l7.wl ok l7.b7 hfi;have e10:Str.ofString "\n"=S [10]:=by decide +kernel
  have rl:(Yy fi (fC.zip (ls.zip ss))).length=n:=by rw [Yy,List.length_map,tX l7.sl l7.wl,nl]
  have NK:ls[0]?=some fi:=by rw [<- List.head?_eq_getElem?];exact hfi
  walk_at "rd";refine ⟨rfl,Wt (n:=n) (aF (Yy fi (fC.zip (ls.zip ss)))) (fun R r=>by walk_at "rd";exact r) (by rw [Xi,rl]) (by omega) ?_ ?_⟩
  ·intro i v H6 hi hv sm R r
   obtain ⟨w,nm,s,z1,z2,z3,z4⟩:=Pr l7.sl l7.wl (i:=i) (by omega);have hv:some (V.str (S (XM w nm fi s)))=some v:=by
    rw [<- hv,aF,Yy,List.getElem?_map,List.getElem?_map,z4];rfl
   cases hv
   have l6:=l7.keep sm;have hn2:=(oN nm (List.mem_of_getElem? z2)).2;have hf2:=(oN fi (List.mem_of_getElem? NK)).2;walk_at "rd";refine ⟨_,au.of l6.hN,_,Yz (Wb z2),_,au.of l6.hS,_,Yz (Wb (by rw [List.getElem?_map,z3];rfl)),_,au.of l6.hW,_,Yz (by rw [nV,List.getElem?_map,z1];rfl),_,au.of l6.hN,_,Yz (j:=0) (Wb NK),nm,fi,s,w,ls,rfl,l7.b7 s (List.mem_of_getElem? z3),by omega,by omega,fun H7 s7=>r H7 s7⟩
  ·intro D H6 hD sm hd
   obtain ⟨_,hlen⟩:=W2 its;refine ⟨_,D,(Yy fi (fC.zip (ls.zip ss))).map S,rfl,rfl,au.of (by rw [<- Dl];exact hd),?_,?_⟩
   ·have h1:=WS hlen
    have e:((Yy fi (fC.zip (ls.zip ss))).map S).map (·.length)=(Yy fi (fC.zip (ls.zip ss))).map List.length:=by rw [List.map_map];exact List.map_congr_left fun x _=>Ys x
    have e1:(Str.ofString "\n").length=1:=by decide
    rw [e,e1,List.length_map,rl];rw [rl] at h1
    omega
   ·rw [e10,X9]
    exact hNn _ _ ⟨l7.keep sm,rfl⟩
 clear l7;rintro σ H6 ⟨l7,rfl⟩;have its:=Ni l7.sl l7.wl ok l7.b7 hfi;have hws:=qY (ws:=fC) l7.sl l7.wl;have hzl:=tX (ws:=fC) l7.sl l7.wl;obtain ⟨qu,zb2,zb3⟩:=z8 (ws:=fC) l7.sl l7.wl;generalize hits:fC.zip (ls.zip ss)=it at *;refine Uw (fun σ H7=>L7 H' H7 N Sx W ls ss fC/\∃ B o,Ui H7 B (ls.zip ss)/\σ=[some (.ref a),some (.int (n:Nat)),some (.int (L:Nat)),some (.ref N),some (.ref Sx),some (.int (sp:Nat)),some (.ref W),some (.str (S (Yp [10] (Yy fi it)))),some (.ref B),o,none,none,none,none,none]) ?_ ?_
 rotate_left
 ·intro Nn hNn
  walk_at "rd";intro B hB;have up:∀ kvs,L7 H' (upd H6 B (.dK kvs)) N Sx W ls ss fC:=fun kvs=>l7.keep (.ao hB _)
  refine VM (n:=n) (fun i σ' H7=>∃ kvs o,H7=upd H6 B (.dK kvs)/\kvs.length<=2*i/\(∀ j x s,j<i->ls[j]?=some x->ss[j]?=some s->Xh kvs (Sum.inr (S x))=some (bV (Xv s)))/\σ'=[some (.ref a),some (.int (n:Nat)),some (.int (L:Nat)),some (.ref N),some (.ref Sx),some (.int (sp:Nat)),some (.ref W),some (.str (S (Yp [10] (Yy fi it)))),some (.ref B),o,none,none,none,none,none]) (fun R r=>by walk_at "rd";exact r) (by omega) ⟨[],none,rfl,by simp,fun j x s h=>by omega,rfl⟩ ?_ ?_
  ·rintro i σ' H7 hi ⟨kvs,o,rfl,hkl,hkv,rfl⟩
   have hil:i<ls.length:=by omega
   have hx:ls[i]?=some ls[i]:=List.getElem?_eq_getElem hil;have hs:ss[i]?=some (ss[i]'(by have:=l7.sl;omega)):=List.getElem?_eq_getElem _;generalize ls[i]=x at hx;generalize (ss[i]'(by have:=l7.sl;omega))=s at hs;have hb:=l7.b7 s (List.mem_of_getElem? hs);have dif:∀ j y,j<i->ls[j]?=some y->S y≠S x:=fun j y hj hy z=>by
    have:=Y8 z;subst this;have e1:=(List.getElem?_eq_some_iff.mp hy);have e2:=(List.getElem?_eq_some_iff.mp hx);have:=(List.getElem_inj Nz).mp (e1.2.trans e2.2.symm);omega
   have big:∀ m:Nat,m<=100->m<sizeLine:=fun m h=>Nat.lt_of_le_of_lt h (by decide)
   walk_at "rd";refine ⟨_,rfl,_,rfl,_,rfl,N,_,(i:Int),_,rfl,rfl,au.of (up kvs).hN,Yz (Wb hx),B,_,rfl,Q1.k (k:=Sum.inr (S x)) Yf (big _ (by omega)),?_⟩;rw [VN];have hp1:=Nm kvs (Sum.inr (S x)) V.non;walk_at "rd";refine ⟨_,au.of (up _).hS,_,Yz (Wb (x:=tt s) (by rw [List.getElem?_map,hs];rfl)),?_⟩;have fl:(aF ls).all Wr=true:=by
    rw [List.all_eq_true];intro z hz;obtain ⟨y,_,rfl⟩:=List.mem_map.mp hz;rfl
   refine ⟨_,.inl (au.of (up _).hN),rfl,fl,?_⟩;rw [zG];have old:∀ (kvs':List (Key×V)),(∀ j y s,j<i->ls[j]?=some y->ss[j]?=some s->Xh kvs' (Sum.inr (S y))=some (bV (Xv s)))->Xh kvs' (Sum.inr (S x))=some (bV (Xv s))->∀ j y s',j<i+1->ls[j]?=some y->ss[j]?=some s'->Xh kvs' (Sum.inr (S y))=some (bV (Xv s')):=fun kvs' h1 h2 j y s' hj hy hs'=>by
    by_cases c:j<i
    ·exact h1 j y s' c hy hs'
    ·obtain rfl:j=i:=by omega
     rw [hx] at hy
     rw [hs] at hs'
     cases hy;cases hs'
     exact h2
   have rm:∀ (v:V) (kvs':List (Key×V)),(∀ j y s,j<i->ls[j]?=some y->ss[j]?=some s->Xh kvs' (Sum.inr (S y))=some (bV (Xv s)))->∀ j y s,j<i->ls[j]?=some y->ss[j]?=some s->Xh (X2 kvs' (Sum.inr (S x)) v) (Sum.inr (S y))=some (bV (Xv s)):=fun v kvs' h j y s hj hy hs=>by
    rw [Qj,if_neg (fun z=>dif j y hj hy (Sum.inr.inj z))];exact h j y s hj hy hs
   refine Yw (fun c=>?_) fun c=>?_
   ·have hin:=of_decide_eq_true c
    obtain ⟨w,hw⟩:=(Nj ok hb).mp hin;have hu:=U6 hw;have htw:tt s=w:=by rw [hu,Vu]
    have hp2:=Nm (X2 kvs (Sum.inr (S x)) V.non) (Sum.inr (S x)) (V.str (S (tt s)));refine ⟨_,rfl,_,rfl,Sx,_,(i:Int),_,rfl,rfl,au.of (up _).hS,Yz (Wb (x:=tt s) (by rw [List.getElem?_map,hs];rfl)),_,rfl,_,rfl,_,rfl,N,_,(i:Int),_,rfl,rfl,au.of (up _).hN,Yz (Wb hx),B,_,rfl,Q1.k (k:=Sum.inr (S x)) Yf (big _ (by omega)),_,VN,by omega,old _ (rm _ _ (rm _ _ hkv)) ?_,_,rfl⟩;rw [Qj,if_pos rfl,hw,htw];rfl
   ·have hni:Xv s=none:=by
     cases e:Xv s with
     | none=>rfl
     | some w=>exact (c (decide_eq_true ((Nj ok hb).mpr ⟨w,e⟩))).elim
    refine ⟨_,rfl,by omega,old _ (rm _ _ hkv) ?_⟩;rw [Qj,if_pos rfl,hni];rfl
  ·rintro σ' H7 ⟨kvs,o,rfl,hkl,hkv,rfl⟩
   refine hNn _ _ ⟨up kvs,B,o,⟨kvs,Yf,fun x hx=>?_⟩,rfl⟩;rw [qu] at hx
   obtain ⟨j,hj⟩:=List.mem_iff_getElem?.mp hx;have hjl:=(List.getElem?_eq_some_iff.mp hj).1;have hs:ss[j]?=some (ss[j]'(by have:=l7.sl;omega)):=List.getElem?_eq_getElem _;rw [hkv j x _ (by omega) hj hs,br,YiA Nz hj hs];rfl
 clear l7;rintro σ H7 ⟨l7,B,o,hB,rfl⟩;have hcl:=Pu l7.sl l7.b7;have hT:=(W2 its).1;generalize jT:Yp [10] (Yy fi it)=T at *;have hso:∀ x∈ls,PyData.strOk (S x)=true:=fun x hx=>Yhv (oN x hx).1
 refine Xq (fun σ H8=>L7 H' H8 N Sx W ls ss fC/\Ui H8 B (ls.zip ss)/\σ=[some (.ref a),some (.int (n:Nat)),some (.int (L:Nat)),some (.ref N),some (.ref Sx),some (.int (sp:Nat)),some (.ref W),some (.str (S T)),some (.ref B),o,some (.int (UO fC n (XC (ls.zip ss)):Nat)),none,none,none,none]) ?_ ?_
 rotate_left
 ·intro Nn hNn
  walk_at "rd";exact ⟨W,N,B,fC,ls.zip ss,n,rfl,l7.hW,by rw [qu];exact l7.hN,hB,hcl,by omega,by rw [qu];exact hso,fun H8 s8=>hNn _ _ ⟨l7.keep s8,hB.keep s8,rfl⟩⟩
 clear l7 hB;rintro σ H8 ⟨l7,hB,rfl⟩;have hTD:∀ Hx,TD g.K Hx T (ls.zip ss) (.str (S T)) (UO fC n (XC (ls.zip ss))):=fun Hx=>by
  subst hits;have:=YhD (K:=g.K) (H:=Hx) its l7.sl l7.wl;rw [jT,nl] at this
  exact this
 have mq:SO T:=by rw [<- jT];exact Px its
 have soR:∀ r∈Yy fi it,SO r:=Nr its;have rA:spl T=Yy fi it:=by rw [<- jT];exact QU its
 generalize hdd:UO fC n (XC (ls.zip ss))=d0 at *;refine Uw (fun σ H9=>L7 H' H9 N Sx W ls ss fC/\Ui H9 B (ls.zip ss)/\∃ v d,TD g.K H9 T (ls.zip ss) v d/\σ=[some (.ref a),some (.int (n:Nat)),some (.int (L:Nat)),some (.ref N),some (.ref Sx),some (.int (sp:Nat)),some (.ref W),some (.str (S T)),some (.ref B),o,some (.int (d:Nat)),some v,none,none,none]) ?_ ?_
 rotate_left
 ·intro Nn hNn
  obtain ⟨e,he,he2⟩:=Xy (ns.getD 0 0 / 153) (j:=14) (by decide);walk_at "rd";refine c0 _ _ l7.sm ⟨_,rfl,XN (by decide) (by decide),by decide,?_⟩;rw [he];have same:∀ t:List Nat,t=T->∃ d,Den g.K H8 (.str (S t)) d/\∃ x,Den g.K H8 (.str (S T)) x/\d.depth<=64/\if d.eqv x=false then tV g.K [.str (S t),.ref W] H8 (fun x_1 H1=>Nn [some (.ref a),some (.int (n:Nat)),some (.int (L:Nat)),some (.ref N),some (.ref Sx),some (.int (sp:Nat)),some (.ref W),some (.str (S T)),some (.ref B),o,some x_1,some (.str (S t)),none,none,none] H1) E0 else Nn [some (.ref a),some (.int (n:Nat)),some (.int (L:Nat)),some (.ref N),some (.ref Sx),some (.int (sp:Nat)),some (.ref W),some (.str (S T)),some (.ref B),o,some (.int (d0:Nat)),some (.str (S t)),none,none,none] H8:=fun t ht=>by
   subst ht;exact ⟨_,.str _ mq.ok,_,.str _ mq.ok,by simp [PyData.depth],Xc (by simp [PyData.eqv]) (hNn _ _ ⟨l7,hB,_,d0,hTD _,rfl⟩)⟩
  have edge:∀ t:List Nat,SO t->t≠T->t.length<=50000->(t≠[]->∀ Hx,((spl t).length<=8/\7∉fC->TD g.K Hx T (ls.zip ss) (.str (S t)) 1)/\(¬ ((spl t).length<=8/\7∉fC)->TD g.K Hx T (ls.zip ss) (.str (S t)) 0))->∃ d,Den g.K H8 (.str (S t)) d/\∃ x,Den g.K H8 (.str (S T)) x/\d.depth<=64/\if d.eqv x=false then tV g.K [.str (S t),.ref W] H8 (fun x_1 H1=>Nn [some (.ref a),some (.int (n:Nat)),some (.int (L:Nat)),some (.ref N),some (.ref Sx),some (.int (sp:Nat)),some (.ref W),some (.str (S T)),some (.ref B),o,some x_1,some (.str (S t)),none,none,none] H1) E0 else Nn [some (.ref a),some (.int (n:Nat)),some (.int (L:Nat)),some (.ref N),some (.ref Sx),some (.int (sp:Nat)),some (.ref W),some (.str (S T)),some (.ref B),o,some (.int (d0:Nat)),some (.str (S t)),none,none,none] H8:=fun t so ne tl td=>by
   refine ⟨_,.str _ so.ok,_,.str _ mq.ok,by simp [PyData.depth],Xu ?_ ⟨_,W,fC,rfl,l7.hW,.inr ⟨t,rfl,tl,fun z=>?_,fun z H9 s9=>⟨fun w=>?_,fun w=>?_⟩⟩⟩⟩
   ·have:S t≠S T:=fun z=>ne (Y8 z)
    simp [PyData.eqv,this]
   ·subst z
    exact hNn _ _ ⟨l7,hB,_,1,.nn (by simp) (Mw [] (.inr trivial)).1 (Mw [] (.inr trivial)).2,rfl⟩
   ·exact hNn _ _ ⟨l7.keep s9,hB.keep s9,_,1,(td z H9).1 w,rfl⟩
   ·exact hNn _ _ ⟨l7.keep s9,hB.keep s9,_,0,(td z H9).2 w,rfl⟩
  refine ⟨T,e,rfl,hT,?_,?_,?_,?_,?_,?_,?_⟩
  ·intro _
   refine edge _ (mq.app (by unfold SO;decide)) (by simp) (by rw [List.length_append];simp;omega) fun _ Hx=>?_
   have:=Yf1 its;rw [jT,hws] at this
   exact Qb this
  ·intro _
   refine edge _ (.cons (by decide) mq) (by intro z;have:=congrArg List.length z;simp at this) (by rw [List.length_cons];omega) fun _ Hx=>?_
   have:=Yd9 its;rw [jT,hws] at this
   exact Qb this
  ·intro _
   by_cases c:Yp [10,10] (spl T)=T
   ·exact same _ c
   ·have h2:2<=it.length:=by
     have h1:(Yy fi it).length=it.length:=List.length_map ..;by_cases z:2<=it.length
     ·exact z
     ·exfalso
      refine c ?_;rw [rA,<- jT]
      match hr:Yy fi it,QS its with
      | [],h=>exact (h rfl).elim
      | [x],_=>rfl
      | x::y::r,_=>rw [hr] at h1;simp at h1;omega
    have:=Yf2 its h2;rw [jT,hws] at this
    refine edge _ ?_ c this.len fun _ Hx=>Qb this
    rw [rA];exact SO.join (by unfold SO;decide) soR
  ·intro _
   refine edge _ (fun c hc=>by cases hc) ?_ (by simp) fun z=>(z rfl).elim
   intro z;have h1:Yy fi it=[[]]:=by rw [<- rA,<- z];rfl
   have h2:([]:List Nat)∈Yy fi it:=by rw [h1];exact .head _
   obtain ⟨i,hi,e⟩:=List.mem_map.mp h2;exact YhE (zE (its.bQ _ (zT its hi)).1) e
  ·intro _
   by_cases c:61∈T
   ·have:=YhA its (by rw [jT];exact c)
    rw [jT,hws] at this
    refine edge _ (Dp mq) ?_ this.len fun _ Hx=>Qb this
    intro z;have h1:=congrArg List.length z;have h2:=congrArg List.length (Vh c).1;rw [ft,if_pos c,List.length_append,List.length_append] at h1
    rw [List.length_append,List.length_cons] at h2
    have:fV.length=4:=rfl;omega
   ·exact same _ (by rw [ft,if_neg c])
  ·rintro _ v H9 s9 hns ⟨dd,h1,h2,h3⟩
   exact ⟨_,h1,_,.str _ mq.ok,h2,Xu (h3 _) ⟨v,W,fC,rfl,(l7.keep s9).hW,.inl ⟨hns,hNn _ _ ⟨l7.keep s9,hB.keep s9,v,1,.no hns,rfl⟩⟩⟩⟩
  ·intro _
   exact same _ rfl
 clear l7 hB hTD;rintro σ H9 ⟨l7,hB,v,d,hTD,rfl⟩;refine vV (fun σ lG=>L7 H' lG N Sx W ls ss fC/\Ui lG B (ls.zip ss)/\(d=6->Yp [10] (je (ls.zip ss))=T/\Qq (ls.zip ss)/\(ls.zip ss).length<=8)/\∃ er fo,∃ oe,qZ Z0 Z3 Z8 Z5 Z6 Z4 lG (ls.zip ss) d er fo/\σ=[some (.ref a),some (.int (n:Nat)),some (.int (L:Nat)),some (.ref N),some (.ref Sx),some (.int (sp:Nat)),some (.ref W),some (.str (S T)),some (.ref B),o,some (.int (d:Nat)),some v,some er,some fo,oe]) ?_ ?_
 rotate_left
 ·intro Nn hNn
  have raise:∀ (C:Addr) (dc:Option Addr) (H2:Hp) (b:Addr),Same H9 H2->H2 b=none->(C=Z3/\d=0\/C=Z0/\d=1\/C=Z8/\d=2\/C=Z5/\d=3\/C=Z6/\d=4\/C=Z4/\d=5)->(d=5->∃ x,dc=some x/\QN H2 x (XC (ls.zip ss)))->Nn [some (.ref a),some (.int (n:Nat)),some (.int (L:Nat)),some (.ref N),some (.ref Sx),some (.int (sp:Nat)),some (.ref W),some (.str (S T)),some (.ref B),o,some (.int (d:Nat)),some v,some (.ref b),some .non,none] (upd H2 b (Wv b (.ref C) dc)):=fun C dc H2 b s hb hc hr=>by
   have u:=Same.ao hb (Wv b (.ref C) dc);refine hNn _ _ ⟨l7.keep (s.trans u),hB.keep (s.trans u),fun z=>by omega,_,_,_,.bad Yf hc fun z=>?_,rfl⟩;obtain ⟨x,h1,R,h2,h3⟩:=hr z;exact ⟨x,h1,R,u _ _ h2,u _ _ h3⟩
  walk_at "rd"
  cases hTD with
  | no hn=>exact ⟨v,rfl,.inl ⟨hn,aX,fun b hb=>raise _ _ _ b (.refl _) hb (.inr (.inl ⟨rfl,rfl⟩)) fun z=>by omega⟩⟩
  | @cr t tl nc=>exact ⟨_,rfl,.inr ⟨t,rfl,tl,fun _ H2 s2=>⟨bC,fun b hb=>raise _ _ _ b s2 hb (.inl ⟨rfl,rfl⟩) fun z=>by omega⟩,fun c=>(nc c).elim,fun _ c=>(nc c).elim,fun _ c=>(nc c).elim,fun _ c=>(nc c).elim,fun _ _ c=>(nc c).elim,fun _ _ _ c=>(nc c).elim⟩⟩
  | @nn t tl c hn=>exact ⟨_,rfl,.inr ⟨t,rfl,tl,fun z=>(z c).elim,fun _ _ H2 s2=>⟨aX,fun b hb=>raise _ _ _ b s2 hb (.inr (.inl ⟨rfl,rfl⟩)) fun z=>by omega⟩,fun bk _ e=>(by rw [hn] at e;cases e),fun bk _ e=>(by rw [hn] at e;cases e),fun bk _ e=>(by rw [hn] at e;cases e),fun bk _ _ e=>(by rw [hn] at e;cases e),fun bk _ _ _ e=>(by rw [hn] at e;cases e)⟩⟩
  | @tw t bk tl c hk n2=>exact ⟨_,rfl,.inr ⟨t,rfl,tl,fun z=>(z c).elim,fun _ e=>(by rw [hk] at e;cases e),fun fG _ e _ H2 s2=>⟨cg,fun b hb=>raise _ _ _ b s2 hb (.inr (.inr (.inl ⟨rfl,rfl⟩))) fun z=>by omega⟩,fun fG _ e z=>(by rw [hk] at e;cases e;exact (n2 z).elim),fun fG _ e z=>(by rw [hk] at e;cases e;exact (n2 z).elim),fun fG _ _ e z=>(by rw [hk] at e;cases e;exact (n2 z).elim),fun fG _ _ _ e z=>(by rw [hk] at e;cases e;exact (n2 z).elim)⟩⟩
  | @rg t bk tl c hk b2 nr=>exact ⟨_,rfl,.inr ⟨t,rfl,tl,fun z=>(z c).elim,fun _ e=>(by rw [hk] at e;cases e),fun fG _ e z=>(by rw [hk] at e;cases e;exact (z b2).elim),fun fG _ e _ _ H2 s2=>⟨bD,fun b hb=>raise _ _ _ b s2 hb (.inr (.inr (.inr (.inl ⟨rfl,rfl⟩)))) fun z=>by omega⟩,fun fG _ e _ z=>(by rw [hk] at e;cases e;exact (nr z).elim),fun fG _ _ e _ z=>(by rw [hk] at e;cases e;exact (nr z).elim),fun fG _ _ _ e _ z=>(by rw [hk] at e;cases e;exact (nr z).elim)⟩⟩
  | @nm t bk tl c hk b2 rg nn=>exact ⟨_,rfl,.inr ⟨t,rfl,tl,fun z=>(z c).elim,fun _ e=>(by rw [hk] at e;cases e),fun fG _ e z=>(by rw [hk] at e;cases e;exact (z b2).elim),fun fG _ e _ z=>(by rw [hk] at e;cases e;exact (z rg).elim),fun fG _ e _ _ _ H2 s2=>⟨bL,fun b hb=>raise _ _ _ b s2 hb (.inr (.inr (.inr (.inr (.inl ⟨rfl,rfl⟩))))) fun z=>by omega⟩,fun fG _ _ e _ _ z=>(by rw [hk] at e;cases e;exact (nn z).elim),fun fG _ _ _ e _ _ z=>(by rw [hk] at e;cases e;exact (nn z).elim)⟩⟩
  | @gr t bk tl c hk b2 rg nm hr er=>exact ⟨_,rfl,.inr ⟨t,rfl,tl,fun z=>(z c).elim,fun _ e=>(by rw [hk] at e;cases e),fun fG _ e z=>(by rw [hk] at e;cases e;exact (z b2).elim),fun fG _ e _ z=>(by rw [hk] at e;cases e;exact (z rg).elim),fun fG _ e _ _ z=>(by rw [hk] at e;cases e;exact (z nm).elim),fun fG dx _ e _ _ _ _ H2 s2 hR=>(by rw [hk] at e;cases e;exact ⟨bw,fun b hb=>raise _ _ _ b s2 hb (.inr (.inr (.inr (.inr (.inr ⟨rfl,rfl⟩))))) fun z=>⟨dx,rfl,by rw [<- er];exact hR⟩⟩),fun fG _ _ _ e _ _ _ z=>(by rw [hk] at e;cases e;exact (hr z).elim)⟩⟩
  | @ok t tl c hk b2 rg nm hr ht=>exact ⟨_,rfl,.inr ⟨t,rfl,tl,fun z=>(z c).elim,fun _ e=>(by rw [hk] at e;cases e),fun fG _ e z=>(by rw [hk] at e;cases e;exact (z b2).elim),fun fG _ e _ z=>(by rw [hk] at e;cases e;exact (z rg).elim),fun fG _ e _ _ z=>(by rw [hk] at e;cases e;exact (z nm).elim),fun fG dx _ e _ _ _ z=>(by rw [hk] at e;cases e;exact (z hr).elim),fun fG F H2 _ e _ _ _ _ s2 hF tZ=>by rw [hk] at e;cases e;exact hNn _ _ ⟨l7.keep s2,hB.keep s2,fun _=>⟨ht,⟨by have:=(UL hk).1;have:=c.1;omega,(UL hk).2⟩,by have:=(UL hk).1;have:=c.1;omega⟩,_,_,_,.good rfl tZ,rfl⟩⟩⟩
 clear l7 hB hTD;rintro σ lG ⟨l7,hB,h6,er,fo,oe,hO,rfl⟩
 cases hO with
 | @good F e tZ =>
  obtain ⟨ht,hbo,h8⟩:=h6 e;obtain ⟨us,h1,h2,h3⟩:=id tZ;obtain ⟨ps,g1,g2,g3⟩:=U5 (K:=g.K) h2 h3;walk_at "rd";refine Xu (by omega) ?_;refine Ud (K:=g.K) (b:=F) (xs:=us) ps (aF ls) (fun R r=>by walk_at "rd";exact r) (au.of h1) g2 g1 (by rw [Xi,h2,zb3]) (by omega) ?_ ?_
  ·intro j p y H2 hp hy sm R r
   have hj:=(List.getElem?_eq_some_iff.mp hp).1;have hkj:(ls.zip ss)[j]?=some ((ls.zip ss)[j]'(by omega)):=List.getElem?_eq_getElem _;generalize (ls.zip ss)[j]'(by omega)=pr at hkj;have hlj:ls[j]?=some pr.1:=(List.getElem?_zip_eq_some.mp hkj).1;rw [Wb hlj] at hy
   cases hy
   obtain ⟨z1,z2⟩:=g3 j p _ hp hkj;walk_at "rd";rw [z1];exact r H2 (.refl _)
  ·intro D H2 hD sm hd
   refine ⟨_,X5 hd hso,_,X5 (l7.keep sm).hN hso,Uh _,?_⟩;rw [Ug,decide_eq_true rfl];refine Xu rfl ⟨F,ls.zip ss,rfl,tZ.keep sm,hbo,h8,fun p hp=>?_,fun H3 s3=>⟨Wl _ _,?_⟩⟩
   ·obtain ⟨m1,m2⟩:=List.of_mem_zip hp
    have k1:=(oN _ m1).2;have k2:=(l7.b7 _ m2).len;exact ⟨by omega,by omega⟩
   ·rw [ht,decide_eq_true rfl]
    exact q _
 | @bad b C dc hb hc hr =>
  have facts:C∈[Z0,Z3,Z8,Z5,Z6,Z4]/\PySem.W.kitOne g.K (.ref C) (.type "ValueError")=some true:=by
   rcases hc with ⟨rfl,_⟩ | ⟨rfl,_⟩ | ⟨rfl,_⟩ | ⟨rfl,_⟩ | ⟨rfl,_⟩ | ⟨rfl,_⟩
   ·exact ⟨by simp,bA⟩
   ·exact ⟨by simp,bJ⟩
   ·exact ⟨by simp,bZ⟩
   ·exact ⟨by simp,bB⟩
   ·exact ⟨by simp,bK⟩
   ·exact ⟨by simp,bh⟩
  obtain ⟨hm,hkv⟩:=facts;have d5:d<=5:=by rcases hc with ⟨_,z⟩ | ⟨_,z⟩ | ⟨_,z⟩ | ⟨_,z⟩ | ⟨_,z⟩ | ⟨_,z⟩<;>omega
  walk_at "rd";refine Xc (by omega) ⟨C,hm,b,_,_,_,dc,rfl,rfl,hb,hkv,_,rfl,Xc (by decide) ⟨b,C,dc,d,rfl,hb,hc,fun p TF FN hp=>?_⟩⟩;refine Wt (n:=6) (six d) (fun R r=>by walk_at "rd";exact r) rfl (by decide) ?_ ?_
  ·intro i y H2 hi hy sm R r
   rw [YiC hi] at hy
   cases hy
   have e:decide ((d:Int)=(i:Int))=decide (d=i):=decide_eq_decide.mpr (by omega);walk_at "rd";rw [e];exact r H2 (.refl _)
  ·intro D H2 hD sm hd
   refine ⟨_,Nt (sm _ _ hp),_,Nt hd,(Nu d).2,?_⟩;rw [(Nu d).1];refine Xc (by decide) (Yw (fun c=>q _) fun c=>?_);obtain ⟨x,hdc,R,h2,h3⟩:=hr (by omega);have hC:C=Z4:=by rcases hc with ⟨_,z⟩ | ⟨_,z⟩ | ⟨_,z⟩ | ⟨_,z⟩ | ⟨_,z⟩ | ⟨z,_⟩<;>first | exact z | omega
   subst hC;subst hdc;have s2:=FN.trans sm;refine ⟨_,rfl,b,x,_,_,rfl,s2 _ _ hb,s2 _ _ h2,rfl,?_⟩;refine ⟨_,rfl,_,.lst (s2 _ _ h3),true,rfl,Xu rfl ⟨_,rfl,b,x,_,_,rfl,s2 _ _ hb,s2 _ _ h2,rfl,?_⟩⟩;have z9:∀ y∈XC (ls.zip ss),PyData.strOk (S y)=true:=fun y hy=>hso y (by have:=M9 hy;rwa [qu] at this)
   refine ⟨N,B,ls.zip ss,rfl,by rw [qu];exact (l7.keep s2).hN,hB.keep s2,hcl,by omega,fun R' H3 s3 hR'=>⟨_,X5 (s3 _ _ (s2 _ _ h3)) z9,_,X5 hR' z9,Uh _,?_⟩⟩;rw [Ug,decide_eq_true rfl];exact q _
theorem aV {α:Type} {us:List α} (h:us.length=1):∃ a0,us=[a0]:=by
 match us,h with
 | [a0],_=>exact ⟨_,rfl⟩
theorem gj {α:Type} {us:List α} (h:us.length=2):∃ a0 a1,us=[a0,a1]:=by
 match us,h with
 | [a0,a1],_=>exact ⟨_,_,rfl⟩
theorem us3 {α:Type} {us:List α} (h:us.length=3):∃ a0 a1 a2,us=[a0,a1,a2]:=by
 match us,h with
 | [a0,a1,a2],_=>exact ⟨_,_,_,rfl⟩
theorem NP {α:Type} {us:List α} (h:us.length=4):∃ a0 a1 a2 a3,us=[a0,a1,a2,a3]:=by
 match us,h with
 | [a0,a1,a2,a3],_=>exact ⟨_,_,_,_,rfl⟩
structure Top (K:PySem.W.Frag) (mg:Str->Option Value) (Zg:Addr) (Z0:Addr) (Z3:Addr) (Z8:Addr) (Z5:Addr) (Z6:Addr) (Z4:Addr) (Z1:Addr):Prop where
 Aa:∀ P w base,(Gx.mk P w K mg base).Raw "is_figure" "is_figure" Hs ["sign"]
 Ab:∀ P w base,(Gx.mk P w K mg base).Raw "is_small_letter" "is_small_letter" Ht ["sign"]
 Ac:∀ P w base,(Gx.mk P w K mg base).Raw "is_letter_or_figure" "is_letter_or_figure" Hu ["sign"]
 Ad:∀ P w base,(Gx.mk P w K mg base).Raw "is_word_sign" "is_word_sign" Hv ["sign"]
 Ae:∀ P w base,(Gx.mk P w K mg base).Raw "is_label" "is_label" Hw ["text"]
 Af:∀ P w base,(Gx.mk P w K mg base).lH "NoteReader" Z1 "NoteReader.__init__" Ih ["self","text"]
 Ag:∀ P w base,(Gx.mk P w K mg base).eX Z1 "sign_here" "NoteReader.sign_here" Ii ["self"]
 Ah:∀ P w base,(Gx.mk P w K mg base).eX Z1 "takes" "NoteReader.takes" Ij ["self","sign"]
 Ai:∀ P w base,(Gx.mk P w K mg base).eX Z1 "word_signs" "NoteReader.word_signs" Ik ["self"]
 Aj:∀ P w base,(Gx.mk P w K mg base).eX Z1 "at_end" "NoteReader.at_end" Im ["self"]
 Zc:∀ P w base,(Gx.mk P w K mg base).eX Z1 "labelled_note" "NoteReader.labelled_note" ZW ["self"]
 Zd:∀ P w base,(Gx.mk P w K mg base).eX Z1 "bracketed_notes" "NoteReader.bracketed_notes" ZU ["self"]
 Ak:∀ P w base,(Gx.mk P w K mg base).Raw "refuse_crowded" "refuse_crowded" wI ["text"]
 Al:∀ P w base,(Gx.mk P w K mg base).Raw "read_note" "read_note" wJ ["text"]
 Am:∀ P w base,(Gx.mk P w K mg base).Raw "is_number_word" "is_number_word" wL ["word"]
 Ao:∀ P w base,(Gx.mk P w K mg base).Raw "lone_word" "lone_word" wM ["note"]
 Aq:∀ P w base,(Gx.mk P w K mg base).Raw "refuse_other_length" "refuse_other_length" wO ["notes","least","most"]
 Ar:∀ P w base,(Gx.mk P w K mg base).Raw "number_drafted" "number_drafted" wN ["note"]
 Av:∀ P w base,(Gx.mk P w K mg base).Raw "use_drafted" "use_drafted" wZ ["name"]
 Aw:∀ P w base,(Gx.mk P w K mg base).Raw "whole_drafted" "whole_drafted" wQ ["notes"]
 Ax:∀ P w base,(Gx.mk P w K mg base).Raw "text_drafted" "text_drafted" wR ["notes"]
 ZG:∀ P w base,(Gx.mk P w K mg base).Raw "row_drafted" "row_drafted" wU ["notes"]
 Zl:∀ P w base,(Gx.mk P w K mg base).Raw "one_part_drafted" "one_part_drafted" wV ["kind","notes"]
 Zt:∀ P w base,(Gx.mk P w K mg base).Raw "alike_drafted" "alike_drafted" wW ["notes"]
 Zq:∀ P w base,(Gx.mk P w K mg base).Raw "branch_drafted" "branch_drafted" wX ["note"]
 Zz:∀ P w base,(Gx.mk P w K mg base).Raw "pick_drafted" "pick_drafted" wY ["notes"]
 Zi:∀ P w base,(Gx.mk P w K mg base).Raw "shape_drafted" "shape_drafted" w6 ["note"]
 Ay:∀ P w base,(Gx.mk P w K mg base).Raw "read_draft" "read_draft" xq ["text"]
 Az:∀ P w base,(Gx.mk P w K mg base).Raw "parts_of" "parts_of" xr ["shape"]
 Zm:∀ P w base,(Gx.mk P w K mg base).Raw "shapes_within" "shapes_within" xu ["shape"]
 Ba:∀ P w base,(Gx.mk P w K mg base).Raw "refuse_twice" "refuse_twice" xH ["draft"]
 Bb:∀ P w base,(Gx.mk P w K mg base).Raw "refuse_no_range" "refuse_no_range" xJ ["draft"]
 Zs:∀ P w base,(Gx.mk P w K mg base).Raw "shown_within" "shown_within" xK ["shape"]
 Zy:∀ P w base,(Gx.mk P w K mg base).Raw "show_shape" "show_shape" xO ["shape"]
 Bc:∀ P w base,(Gx.mk P w K mg base).Raw "names_used" "names_used" xP ["shape"]
 Bd:∀ P w base,(Gx.mk P w K mg base).Raw "shape_of" "shape_of" xR ["book","name"]
 Bf:∀ P w base,(Gx.mk P w K mg base).Raw "refuse_crowded_rows" "refuse_crowded_rows" xT ["rows"]
 Bg:∀ P w base,(Gx.mk P w K mg base).Raw "pair_drafted" "pair_drafted" xU ["row"]
 Bh:∀ P w base,(Gx.mk P w K mg base).Raw "refuse_twice_in_book" "refuse_twice_in_book" xV ["book"]
 Bj:∀ P w base,(Gx.mk P w K mg base).Raw "refuse_no_name" "refuse_no_name" xW ["book"]
 Bk:∀ P w base,(Gx.mk P w K mg base).Raw "show_book" "show_book" yc ["book"]
 Bl:∀ P w base,(Gx.mk P w K mg base).Raw "leads_back" "leads_back" xX ["book","name"]
 Bm:∀ P w base,(Gx.mk P w K mg base).Raw "refuse_no_ground" "refuse_no_ground" xY ["book"]
 Bo:∀ P w base,(Gx.mk P w K mg base).Raw "read_book" "read_book" xZ ["text"]
 Bp:∀ P w base,(Gx.mk P w K mg base).Raw "_law_cell_at" "_law_cell_at" yd ["_law_script","_law_k"]
 Bq:∀ P w base,(Gx.mk P w K mg base).Raw "_law_part" "_law_part" yg ["_law_cell","_law_names"]
 Br:∀ P w base,(Gx.mk P w K mg base).Raw "_law_shape" "_law_shape" yh ["_law_parts","_law_k"]
 Bs:∀ P w base,(Gx.mk P w K mg base).Raw "_law_row" "_law_row" yj ["_law_name","_law_shape_here","_law_way","_law_first"]
 Bt:∀ P w base,(Gx.mk P w K mg base).Raw "_law_edged" "_law_edged" yp ["_law_text","_law_edge"]
 Bu:∀ P w base,(Gx.mk P w K mg base).Raw "_law_edge_due" "_law_edge_due" yq ["_law_thing","_law_ways"]
 Bv:∀ P w base,(Gx.mk P w K mg base).Raw "_law_ring" "_law_ring" yr ["_law_names","_law_bare"]
 Bw:∀ P w base,(Gx.mk P w K mg base).Raw "_law_kinds" "_law_kinds" yt ["_law_error"]
 Bx:∀ P w base,(Gx.mk P w K mg base).Raw "_law_due" "_law_due" yu ["_law_ways","_law_many","_law_names","_law_bare"]
 BJ:∀ P w base,(Gx.mk P w K mg base).Raw "_law_shapes" "_law_shapes" yw ["_law_script","_law_names"]
 Z7:Cls K Z1
 Za:Xe K Z1 "text"
 Z9:Xe K Z1 "place"
 BK:∀ P w base,(Gx.mk P w K mg base).fY "LONGEST_LABEL" (.int 8)
 ZO:∀ P w base,(Gx.mk P w K mg base).fY "LONGEST_WORD" (.int 62)
 pU:∀ P w base,(Gx.mk P w K mg base).fY "MOST_BRACKETS" (.int 6)
 ZD:∀ P w base,(Gx.mk P w K mg base).fY "MOST_BRANCHES" (.int 10)
 pZ:∀ P w base,(Gx.mk P w K mg base).fY "MOST_FIGURES" (.int 60)
 ZR:∀ P w base,(Gx.mk P w K mg base).fY "MOST_PARTS" (.int 8)
 p8:∀ P w base,(Gx.mk P w K mg base).fY "MOST_ROWS" (.int 8)
 pX:∀ P w base,(Gx.mk P w K mg base).fY "MOST_SIGNS" (.int 2000)
 ZS:∀ P w base,(Gx.mk P w K mg base).fY "MOST_TIMES" (.int 6)
 ZH:∀ P w base,(Gx.mk P w K mg base).lJ "OF_ONE_PART" ([.str "many",.str "rising",.str "unlike"])
 qp:mg "ValueError"=none
 gU:mg "all"=none
 iH:mg "int"=none
 Zb:mg "isinstance"=none
 aA:mg "len"=none
 gJ:mg "list"=none
 jQ:mg "min"=none
 Zv:mg "range"=none
 gW:mg "set"=none
 aU:mg "str"=none
 Zj:mg "tuple"=none
 fO:mg "CountError"=some (.ref Zg)
 aj:mg "NoNote"=some (.ref Z0)
 bH:mg "Crowded"=some (.ref Z3)
 dD:mg "Twice"=some (.ref Z8)
 eO:mg "NoRange"=some (.ref Z5)
 fL:mg "NoName"=some (.ref Z6)
 gk:mg "NoGround"=some (.ref Z4)
 dH:PySem.W.excIn K Z3 YU "ValueError.__new__"=true
 iB:PySem.W.excIn K Z6 YU "ValueError.__new__"=true
 ak:PySem.W.excIn K Z0 YU "ValueError.__new__"=true
 gK:PySem.W.excIn K Z5 YU "ValueError.__new__"=true
 fQ:PySem.W.excIn K Z8 YU "ValueError.__new__"=true
 aZ:cA K Z3
 aQ:cA K Z4
 bM:cA K Z6
 bN:cA K Z0
 bf:cA K Z5
 cQ:cA K Z8
 iK:∀ P w base,(Gx.mk P w K mg base).jD "NoGround" Z4 "NoGround.__init__" yC ["self","ring"]
 iM:lK K Z4 Zg
 aY:PySem.W.findIn K (.ref Z4) "ring"=some none
 gO:∀ P w base,lA (Gx.mk P w K mg base) "CountError" Zg
 cG:PySem.W.kitOne K (.ref Z3) (.ref Z3)=some true
 bT:PySem.W.kitOne K (.ref Z3) (.ref Z4)=some false
 cX:PySem.W.kitOne K (.ref Z3) (.ref Z6)=some false
 cW:PySem.W.kitOne K (.ref Z3) (.ref Z0)=some false
 cH:PySem.W.kitOne K (.ref Z3) (.ref Z5)=some false
 dN:PySem.W.kitOne K (.ref Z3) (.ref Z8)=some false
 bA:PySem.W.kitOne K (.ref Z3) (.type "ValueError")=some true
 bW:PySem.W.kitOne K (.ref Z4) (.ref Z3)=some false
 bI:PySem.W.kitOne K (.ref Z4) (.ref Z4)=some true
 cN:PySem.W.kitOne K (.ref Z4) (.ref Z6)=some false
 cM:PySem.W.kitOne K (.ref Z4) (.ref Z0)=some false
 bY:PySem.W.kitOne K (.ref Z4) (.ref Z5)=some false
 dz:PySem.W.kitOne K (.ref Z4) (.ref Z8)=some false
 bh:PySem.W.kitOne K (.ref Z4) (.type "ValueError")=some true
 dj:PySem.W.kitOne K (.ref Z6) (.ref Z3)=some false
 cL:PySem.W.kitOne K (.ref Z6) (.ref Z4)=some false
 dX:PySem.W.kitOne K (.ref Z6) (.ref Z6)=some true
 dW:PySem.W.kitOne K (.ref Z6) (.ref Z0)=some false
 dw:PySem.W.kitOne K (.ref Z6) (.ref Z5)=some false
 eF:PySem.W.kitOne K (.ref Z6) (.ref Z8)=some false
 bK:PySem.W.kitOne K (.ref Z6) (.type "ValueError")=some true
 cU:PySem.W.kitOne K (.ref Z0) (.ref Z3)=some false
 cF:PySem.W.kitOne K (.ref Z0) (.ref Z4)=some false
 dM:PySem.W.kitOne K (.ref Z0) (.ref Z6)=some false
 dJ:PySem.W.kitOne K (.ref Z0) (.ref Z0)=some true
 cV:PySem.W.kitOne K (.ref Z0) (.ref Z5)=some false
 d8:PySem.W.kitOne K (.ref Z0) (.ref Z8)=some false
 bJ:PySem.W.kitOne K (.ref Z0) (.type "ValueError")=some true
 cI:PySem.W.kitOne K (.ref Z5) (.ref Z3)=some false
 bU:PySem.W.kitOne K (.ref Z5) (.ref Z4)=some false
 dh:PySem.W.kitOne K (.ref Z5) (.ref Z6)=some false
 cZ:PySem.W.kitOne K (.ref Z5) (.ref Z0)=some false
 cJ:PySem.W.kitOne K (.ref Z5) (.ref Z5)=some true
 dU:PySem.W.kitOne K (.ref Z5) (.ref Z8)=some false
 bB:PySem.W.kitOne K (.ref Z5) (.type "ValueError")=some true
 dO:PySem.W.kitOne K (.ref Z8) (.ref Z3)=some false
 cY:PySem.W.kitOne K (.ref Z8) (.ref Z4)=some false
 eE:PySem.W.kitOne K (.ref Z8) (.ref Z6)=some false
 d9:PySem.W.kitOne K (.ref Z8) (.ref Z0)=some false
 dR:PySem.W.kitOne K (.ref Z8) (.ref Z5)=some false
 fj:PySem.W.kitOne K (.ref Z8) (.ref Z8)=some true
 bZ:PySem.W.kitOne K (.ref Z8) (.type "ValueError")=some true
 aX:PySem.W.exmOne K (.ref Z0) (.ref Zg)=some true
 bC:PySem.W.exmOne K (.ref Z3) (.ref Zg)=some true
 cg:PySem.W.exmOne K (.ref Z8) (.ref Zg)=some true
 bD:PySem.W.exmOne K (.ref Z5) (.ref Zg)=some true
 bL:PySem.W.exmOne K (.ref Z6) (.ref Zg)=some true
 bw:PySem.W.exmOne K (.ref Z4) (.ref Zg)=some true
theorem Yf6 {K:PySem.W.Frag} {mg:Str->Option Value} {Zg Z0 Z3 Z8 Z5 Z6 Z4 Z1:Addr}  (t:Top K mg Zg Z0 Z3 Z8 Z5 Z6 Z4 Z1) (P:Program) (w:World) (base:Heap) :
  Ql (Gx.mk P w K mg base) 31 ["_law_script","_law_many","_law_letter","_law_names","_law_shapes_here","_law_spoil","_law_ways","_law_text","_law_bare","_law_k","_law_due_here","_law_thing","_law_error","_law_found","e"] "law" sJ (QD K):=by
 have T_:Rd.Txt (Gx.mk P w K mg base) Z1:=⟨t.Z7,t.Za,t.Z9⟩;have NQ:=Rd.yG (g:=Gx.mk P w K mg base) (t.Aa P w base);have NT:=Rd.qN (g:=Gx.mk P w K mg base) (t.Ab P w base);have NZ:=Rd.Cw (t.Ac P w base) NT NQ;have Z51:=Rd.Cy (t.Ad P w base) NZ;have ZY:=Rd.qO (t.Ae P w base) NT (t.BK P w base) t.aA t.gU;have Z2J:=Rd.uy T_ (t.Af P w base);have N5:=Rd.uz T_ (t.Ag P w base);have Ze:=Rd.qP T_ (t.Ah P w base) N5;have Zo:=Rd.uD T_ (t.Ai P w base) N5 Z51;have Z3f:=Rd.yL T_ (t.Aj P w base) t.aA;have Z3g:=Z2R (g:=Gx.mk P w K mg base) (t.iK P w base) (t.gO P w base) t.iM t.aY;have Z13:=Zh (m:=0) (k:=4) (t.Zd P w base) (Ze.mono (by decide)) ((t.Zc P w base).jm (fun _ _ _ _ h=>Rd.CJ h)) t.Zj t.Z7 t.Za t.Z9 t.aj t.ak;have Z1s:=Zk (m:=0) (k:=5) (t.Zc P w base) (ZY.mono (by decide)) (Ze.mono (by decide)) (Zo.mono (by decide)) (Z13.mono (by decide)) t.aA (t.ZO P w base) t.Z7 t.Za t.Z9 t.aj t.ak;have Z14:=Zh (m:=1) (k:=6) (t.Zd P w base) (Ze.mono (by decide)) (Z1s.mono (by decide)) t.Zj t.Z7 t.Za t.Z9 t.aj t.ak;have Z1t:=Zk (m:=1) (k:=7) (t.Zc P w base) (ZY.mono (by decide)) (Ze.mono (by decide)) (Zo.mono (by decide)) (Z14.mono (by decide)) t.aA (t.ZO P w base) t.Z7 t.Za t.Z9 t.aj t.ak;have Z15:=Zh (m:=2) (k:=8) (t.Zd P w base) (Ze.mono (by decide)) (Z1t.mono (by decide)) t.Zj t.Z7 t.Za t.Z9 t.aj t.ak;have Z1u:=Zk (m:=2) (k:=9) (t.Zc P w base) (ZY.mono (by decide)) (Ze.mono (by decide)) (Zo.mono (by decide)) (Z15.mono (by decide)) t.aA (t.ZO P w base) t.Z7 t.Za t.Z9 t.aj t.ak;have Z16:=Zh (m:=3) (k:=10) (t.Zd P w base) (Ze.mono (by decide)) (Z1u.mono (by decide)) t.Zj t.Z7 t.Za t.Z9 t.aj t.ak;have Z1v:=Zk (m:=3) (k:=11) (t.Zc P w base) (ZY.mono (by decide)) (Ze.mono (by decide)) (Zo.mono (by decide)) (Z16.mono (by decide)) t.aA (t.ZO P w base) t.Z7 t.Za t.Z9 t.aj t.ak;have Z17:=Zh (m:=4) (k:=12) (t.Zd P w base) (Ze.mono (by decide)) (Z1v.mono (by decide)) t.Zj t.Z7 t.Za t.Z9 t.aj t.ak;have Z1w:=Zk (m:=4) (k:=13) (t.Zc P w base) (ZY.mono (by decide)) (Ze.mono (by decide)) (Zo.mono (by decide)) (Z17.mono (by decide)) t.aA (t.ZO P w base) t.Z7 t.Za t.Z9 t.aj t.ak;have Z18:=Zh (m:=5) (k:=14) (t.Zd P w base) (Ze.mono (by decide)) (Z1w.mono (by decide)) t.Zj t.Z7 t.Za t.Z9 t.aj t.ak;have Z1x:=Zk (m:=5) (k:=15) (t.Zc P w base) (ZY.mono (by decide)) (Ze.mono (by decide)) (Zo.mono (by decide)) (Z18.mono (by decide)) t.aA (t.ZO P w base) t.Z7 t.Za t.Z9 t.aj t.ak;have Z19:=Zh (m:=6) (k:=16) (t.Zd P w base) (Ze.mono (by decide)) (Z1x.mono (by decide)) t.Zj t.Z7 t.Za t.Z9 t.aj t.ak;have Z1I:=Zk (m:=6) (k:=17) (t.Zc P w base) (ZY.mono (by decide)) (Ze.mono (by decide)) (Zo.mono (by decide)) (Z19.mono (by decide)) t.aA (t.ZO P w base) t.Z7 t.Za t.Z9 t.aj t.ak;have N6:=Z3D (t.Ak P w base) t.aA (t.pU P w base) (t.pX P w base) t.bH t.dH;have mV:=YbZ (k:=18) (t.Al P w base) (N6.mono (by decide)) Z2J (by decide) (Z1I.mono (by decide)) (Z3f.mono (by decide)) t.Zb t.aU t.Z7 t.Za t.Z9 t.aj t.ak;have Z4b:=Z3E (k:=1) (t.Am P w base) (NQ.mono (by decide)) t.gU t.aA (t.pZ P w base);have N7:=Ycb (t.Ao P w base) t.aj t.ak;have Z2:=Z2o (t.Aq P w base) t.aA t.aj t.ak;have Zx:=Z3F (k:=2) (t.Ar P w base) (Z4b.mono (by decide)) (N7.mono (by decide)) t.iH t.aj t.ak;have ZT:=Z4T (k:=2) (t.Av P w base) (ZY.mono (by decide)) t.aj t.ak;have ZJ:=Z48 (k:=3) (t.Aw P w base) (Zx.mono (by decide)) (Z2.mono (by decide));have ZP:=Z4x (k:=2) (t.Ax P w base) (NZ.mono (by decide)) (N7.mono (by decide)) (Z2.mono (by decide)) t.gU t.aj t.ak;have Z3u:=ZA (m:=0) (k:=4) (t.Zq P w base) ((t.Zi P w base).jm (fun _ _ _ _ h=>tu h)) t.aj t.ak;have Z4F:=ZN (m:=0) (k:=5) (t.ZG P w base) (Z2.mono (by decide)) ((t.Zi P w base).jm (fun _ _ _ _ h=>tu h)) t.Zj (t.ZR P w base);have Z30:=Zr (m:=0) (k:=5) (t.Zl P w base) (Z2.mono (by decide)) ((t.Zi P w base).jm (fun _ _ _ _ h=>tu h));have Z3I:=ZE (m:=0) (k:=5) (t.Zt P w base) (Zx.mono (by decide)) (Z2.mono (by decide)) ((t.Zi P w base).jm (fun _ _ _ _ h=>tu h)) (t.ZS P w base) t.aj t.ak;have Z4c:=ZI (m:=0) (k:=5) (t.Zz P w base) (Z2.mono (by decide)) (Z3u.mono (by decide)) t.Zj (t.ZD P w base);have uc:=ZF (m:=0) (k:=6) (t.Zi P w base) (ZJ.mono (by decide)) (ZP.mono (by decide)) (Z4F.mono (by decide)) (Z30.mono (by decide)) (Z3I.mono (by decide)) (Z4c.mono (by decide)) (ZT.mono (by decide)) (t.ZH P w base) t.aj t.ak;have Z3v:=ZA (m:=1) (k:=7) (t.Zq P w base) (uc.mono (by decide)) t.aj t.ak;have Z4G:=ZN (m:=1) (k:=8) (t.ZG P w base) (Z2.mono (by decide)) (uc.mono (by decide)) t.Zj (t.ZR P w base);have Z31:=Zr (m:=1) (k:=8) (t.Zl P w base) (Z2.mono (by decide)) (uc.mono (by decide));have Z3J:=ZE (m:=1) (k:=8) (t.Zt P w base) (Zx.mono (by decide)) (Z2.mono (by decide)) (uc.mono (by decide)) (t.ZS P w base) t.aj t.ak;have Z4d:=ZI (m:=1) (k:=8) (t.Zz P w base) (Z2.mono (by decide)) (Z3v.mono (by decide)) t.Zj (t.ZD P w base);have ud:=ZF (m:=1) (k:=9) (t.Zi P w base) (ZJ.mono (by decide)) (ZP.mono (by decide)) (Z4G.mono (by decide)) (Z31.mono (by decide)) (Z3J.mono (by decide)) (Z4d.mono (by decide)) (ZT.mono (by decide)) (t.ZH P w base) t.aj t.ak;have Z3w:=ZA (m:=2) (k:=10) (t.Zq P w base) (ud.mono (by decide)) t.aj t.ak;have Z4H:=ZN (m:=2) (k:=11) (t.ZG P w base) (Z2.mono (by decide)) (ud.mono (by decide)) t.Zj (t.ZR P w base);have Z32:=Zr (m:=2) (k:=11) (t.Zl P w base) (Z2.mono (by decide)) (ud.mono (by decide));have Z3K:=ZE (m:=2) (k:=11) (t.Zt P w base) (Zx.mono (by decide)) (Z2.mono (by decide)) (ud.mono (by decide)) (t.ZS P w base) t.aj t.ak;have Z4e:=ZI (m:=2) (k:=11) (t.Zz P w base) (Z2.mono (by decide)) (Z3w.mono (by decide)) t.Zj (t.ZD P w base);have uf:=ZF (m:=2) (k:=12) (t.Zi P w base) (ZJ.mono (by decide)) (ZP.mono (by decide)) (Z4H.mono (by decide)) (Z32.mono (by decide)) (Z3K.mono (by decide)) (Z4e.mono (by decide)) (ZT.mono (by decide)) (t.ZH P w base) t.aj t.ak;have Z3x:=ZA (m:=3) (k:=13) (t.Zq P w base) (uf.mono (by decide)) t.aj t.ak;have Z4I:=ZN (m:=3) (k:=14) (t.ZG P w base) (Z2.mono (by decide)) (uf.mono (by decide)) t.Zj (t.ZR P w base);have Z33:=Zr (m:=3) (k:=14) (t.Zl P w base) (Z2.mono (by decide)) (uf.mono (by decide));have Z3L:=ZE (m:=3) (k:=14) (t.Zt P w base) (Zx.mono (by decide)) (Z2.mono (by decide)) (uf.mono (by decide)) (t.ZS P w base) t.aj t.ak;have Z4f:=ZI (m:=3) (k:=14) (t.Zz P w base) (Z2.mono (by decide)) (Z3x.mono (by decide)) t.Zj (t.ZD P w base);have ug:=ZF (m:=3) (k:=15) (t.Zi P w base) (ZJ.mono (by decide)) (ZP.mono (by decide)) (Z4I.mono (by decide)) (Z33.mono (by decide)) (Z3L.mono (by decide)) (Z4f.mono (by decide)) (ZT.mono (by decide)) (t.ZH P w base) t.aj t.ak;have Z3y:=ZA (m:=4) (k:=16) (t.Zq P w base) (ug.mono (by decide)) t.aj t.ak;have Z4J:=ZN (m:=4) (k:=17) (t.ZG P w base) (Z2.mono (by decide)) (ug.mono (by decide)) t.Zj (t.ZR P w base);have Z34:=Zr (m:=4) (k:=17) (t.Zl P w base) (Z2.mono (by decide)) (ug.mono (by decide));have Z3M:=ZE (m:=4) (k:=17) (t.Zt P w base) (Zx.mono (by decide)) (Z2.mono (by decide)) (ug.mono (by decide)) (t.ZS P w base) t.aj t.ak;have Z4g:=ZI (m:=4) (k:=17) (t.Zz P w base) (Z2.mono (by decide)) (Z3y.mono (by decide)) t.Zj (t.ZD P w base);have uh:=ZF (m:=4) (k:=18) (t.Zi P w base) (ZJ.mono (by decide)) (ZP.mono (by decide)) (Z4J.mono (by decide)) (Z34.mono (by decide)) (Z3M.mono (by decide)) (Z4g.mono (by decide)) (ZT.mono (by decide)) (t.ZH P w base) t.aj t.ak;have Z3z:=ZA (m:=5) (k:=19) (t.Zq P w base) (uh.mono (by decide)) t.aj t.ak;have Z4K:=ZN (m:=5) (k:=20) (t.ZG P w base) (Z2.mono (by decide)) (uh.mono (by decide)) t.Zj (t.ZR P w base);have Z35:=Zr (m:=5) (k:=20) (t.Zl P w base) (Z2.mono (by decide)) (uh.mono (by decide));have Z3N:=ZE (m:=5) (k:=20) (t.Zt P w base) (Zx.mono (by decide)) (Z2.mono (by decide)) (uh.mono (by decide)) (t.ZS P w base) t.aj t.ak;have Z4h:=ZI (m:=5) (k:=20) (t.Zz P w base) (Z2.mono (by decide)) (Z3z.mono (by decide)) t.Zj (t.ZD P w base);have um:=ZF (m:=5) (k:=21) (t.Zi P w base) (ZJ.mono (by decide)) (ZP.mono (by decide)) (Z4K.mono (by decide)) (Z35.mono (by decide)) (Z3N.mono (by decide)) (Z4h.mono (by decide)) (ZT.mono (by decide)) (t.ZH P w base) t.aj t.ak;have Z3A:=ZA (m:=6) (k:=22) (t.Zq P w base) (um.mono (by decide)) t.aj t.ak;have Z4L:=ZN (m:=6) (k:=23) (t.ZG P w base) (Z2.mono (by decide)) (um.mono (by decide)) t.Zj (t.ZR P w base);have Z36:=Zr (m:=6) (k:=23) (t.Zl P w base) (Z2.mono (by decide)) (um.mono (by decide));have Z3O:=ZE (m:=6) (k:=23) (t.Zt P w base) (Zx.mono (by decide)) (Z2.mono (by decide)) (um.mono (by decide)) (t.ZS P w base) t.aj t.ak;have Z4i:=ZI (m:=6) (k:=23) (t.Zz P w base) (Z2.mono (by decide)) (Z3A.mono (by decide)) t.Zj (t.ZD P w base);have uo:=ZF (m:=6) (k:=24) (t.Zi P w base) (ZJ.mono (by decide)) (ZP.mono (by decide)) (Z4L.mono (by decide)) (Z36.mono (by decide)) (Z3O.mono (by decide)) (Z4i.mono (by decide)) (ZT.mono (by decide)) (t.ZH P w base) t.aj t.ak;have Z3B:=ZA (m:=7) (k:=25) (t.Zq P w base) (uo.mono (by decide)) t.aj t.ak;have Z4M:=ZN (m:=7) (k:=26) (t.ZG P w base) (Z2.mono (by decide)) (uo.mono (by decide)) t.Zj (t.ZR P w base);have Z37:=Zr (m:=7) (k:=26) (t.Zl P w base) (Z2.mono (by decide)) (uo.mono (by decide));have Z3P:=ZE (m:=7) (k:=26) (t.Zt P w base) (Zx.mono (by decide)) (Z2.mono (by decide)) (uo.mono (by decide)) (t.ZS P w base) t.aj t.ak;have Z4j:=ZI (m:=7) (k:=26) (t.Zz P w base) (Z2.mono (by decide)) (Z3B.mono (by decide)) t.Zj (t.ZD P w base);have Z4N:=ZF (m:=7) (k:=27) (t.Zi P w base) (ZJ.mono (by decide)) (ZP.mono (by decide)) (Z4M.mono (by decide)) (Z37.mono (by decide)) (Z3P.mono (by decide)) (Z4j.mono (by decide)) (ZT.mono (by decide)) (t.ZH P w base) t.aj t.ak;have mz:=YaZ (k:=28) (t.Ay P w base) (mV.mono (by decide)) (Z4N.mono (by decide));have Zn:=YcM (t.Az P w base) t.gJ (t.ZH P w base);have Z3Q:=Zw (m:=0) (k:=1) (t.Zm P w base) (Zn.mono (by decide)) ((t.Zm P w base).none (fun _ _ _ _ h=>CP h));have Z3R:=Zw (m:=1) (k:=2) (t.Zm P w base) (Zn.mono (by decide)) (Z3Q.mono (by decide));have Z3S:=Zw (m:=2) (k:=3) (t.Zm P w base) (Zn.mono (by decide)) (Z3R.mono (by decide));have Z3T:=Zw (m:=3) (k:=4) (t.Zm P w base) (Zn.mono (by decide)) (Z3S.mono (by decide));have Z3U:=Zw (m:=4) (k:=5) (t.Zm P w base) (Zn.mono (by decide)) (Z3T.mono (by decide));have Z3V:=Zw (m:=5) (k:=6) (t.Zm P w base) (Zn.mono (by decide)) (Z3U.mono (by decide));have Z3W:=Zw (m:=6) (k:=7) (t.Zm P w base) (Zn.mono (by decide)) (Z3V.mono (by decide));have Z3X:=Zw (m:=7) (k:=8) (t.Zm P w base) (Zn.mono (by decide)) (Z3W.mono (by decide));have BL:=Zw (m:=8) (k:=9) (t.Zm P w base) (Zn.mono (by decide)) (Z3X.mono (by decide));have Z52:=Z4A (k:=10) (t.Ba P w base) (BL.mono (by decide)) t.aA t.gW t.dD t.fQ;have Z3Y:=Z3m (k:=10) (t.Bb P w base) (BL.mono (by decide)) t.eO t.gK;have Z4k:=ZC (m:=0) (k:=1) (t.Zs P w base) (Zn.mono (by decide)) ((t.Zy P w base).none (fun _ _ _ _ h=>Yhs h)) t.aU;have Z53:=ZL (m:=0) (k:=2) (t.Zy P w base) (Z4k.mono (by decide));have Z4l:=ZC (m:=1) (k:=3) (t.Zs P w base) (Zn.mono (by decide)) (Z53.mono (by decide)) t.aU;have Z54:=ZL (m:=1) (k:=4) (t.Zy P w base) (Z4l.mono (by decide));have Z4m:=ZC (m:=2) (k:=5) (t.Zs P w base) (Zn.mono (by decide)) (Z54.mono (by decide)) t.aU;have Z55:=ZL (m:=2) (k:=6) (t.Zy P w base) (Z4m.mono (by decide));have Z4n:=ZC (m:=3) (k:=7) (t.Zs P w base) (Zn.mono (by decide)) (Z55.mono (by decide)) t.aU;have Z56:=ZL (m:=3) (k:=8) (t.Zy P w base) (Z4n.mono (by decide));have Z4o:=ZC (m:=4) (k:=9) (t.Zs P w base) (Zn.mono (by decide)) (Z56.mono (by decide)) t.aU;have Z57:=ZL (m:=4) (k:=10) (t.Zy P w base) (Z4o.mono (by decide));have Z4p:=ZC (m:=5) (k:=11) (t.Zs P w base) (Zn.mono (by decide)) (Z57.mono (by decide)) t.aU;have Z58:=ZL (m:=5) (k:=12) (t.Zy P w base) (Z4p.mono (by decide));have Z4q:=ZC (m:=6) (k:=13) (t.Zs P w base) (Zn.mono (by decide)) (Z58.mono (by decide)) t.aU;have Z59:=ZL (m:=6) (k:=14) (t.Zy P w base) (Z4q.mono (by decide));have Z4r:=ZC (m:=7) (k:=15) (t.Zs P w base) (Zn.mono (by decide)) (Z59.mono (by decide)) t.aU;have Z5a:=ZL (m:=7) (k:=16) (t.Zy P w base) (Z4r.mono (by decide));have Z4s:=ZC (m:=8) (k:=17) (t.Zs P w base) (Zn.mono (by decide)) (Z5a.mono (by decide)) t.aU;have mC:=ZL (m:=8) (k:=18) (t.Zy P w base) (Z4s.mono (by decide));have mD:=Ya0 (k:=10) (t.Bc P w base) (BL.mono (by decide));have N8:=YcN (t.Bd P w base) t.fL t.iB;have Z2L:=Z2s (k:=1) (t.Bf P w base) (N6.mono (by decide)) t.aA (t.p8 P w base) t.bH t.dH;have Z5b:=Z4B (k:=29) (t.Bg P w base) (ZY.mono (by decide)) (mz.mono (by decide)) t.aj t.ak;have Z2C:=Z25 (k:=11) (t.Bh P w base) (Z52.mono (by decide)) t.aA t.gW t.dD t.fQ;have Z4t:=Z3G (k:=11) (t.Bj P w base) (mD.mono (by decide)) (N8.mono (by decide));have mW:=Ycl (k:=19) (t.Bk P w base) (mC.mono (by decide));have mF:=Ya1 (k:=1) (t.Bl P w base) (N8.mono (by decide)) t.aA t.Zv;have Z3C:=Z3d (k:=2) (t.Bm P w base) (mF.mono (by decide)) Z3g (by decide) t.aA;have mX:=Ycp (k:=30) (t.Bo P w base) (Z3Y.mono (by decide)) (Z2L.mono (by decide)) (Z5b.mono (by decide)) (Z2C.mono (by decide)) (Z4t.mono (by decide)) (Z3C.mono (by decide)) t.Zb t.aU t.aj t.ak;have lu:=Z4Z (t.Bp P w base) t.aA;have oO:=YcO (t.Bq P w base) t.aA t.aU;have mY:=Ycz (t.Br P w base) t.aA t.jQ t.Zv;have qw:=Yea (t.Bs P w base) t.aA;have mZ:=YcB (t.Bt P w base) t.aA;have Z5c:=Z4D (t.Bu P w base) t.iH t.Zb t.aA t.aU;have Oa:=YcP (t.Bv P w base) t.aA t.Zv;have m5:=YcD (t.Bw P w base) t.Zb t.bH t.gk t.fL t.aj t.eO t.dD t.aZ t.aQ t.bM t.bN t.bf t.cQ t.dJ t.cU t.d8 t.cV t.dM t.cF t.cW t.cG t.dN t.cH t.cX t.bT t.d9 t.dO t.fj t.dR t.eE t.cY t.cZ t.cI t.dU t.cJ t.dh t.bU t.dW t.dj t.eF t.dw t.dX t.cL t.cM t.bW t.dz t.bY t.cN t.bI;have qx:=Yeb (k:=1) (t.Bx P w base) (Oa.mono (by decide));have mG:=Ya2 (k:=1) (t.BJ P w base) (oO.mono (by decide)) (mY.mono (by decide)) t.aA t.Zv;exact Yf5 (g:=Gx.mk P w K mg base) (k:=31) (mX.mono (by decide)) (mW.mono (by decide)) (lu.mono (by decide)) (qw.mono (by decide)) (mZ.mono (by decide)) (Z5c.mono (by decide)) (Oa.mono (by decide)) (m5.mono (by decide)) (qx.mono (by decide)) (mG.mono (by decide)) t.aY t.qp t.Zb t.gJ t.Zv t.fO t.aZ t.aQ t.bM t.bN t.bf t.cQ t.bJ t.bA t.bZ t.bB t.bK t.bh t.aX t.bC t.cg t.bD t.bL t.bw
end KW
namespace PySem.W.Fast
theorem tw982071038286559991:True:=⟨⟩
theorem tw11729282978726648255:True:=⟨⟩
theorem tw13015711704215929035:True:=⟨⟩
theorem tw111495197245664810:True:=⟨⟩
theorem tw7588395462461699789:True:=⟨⟩
theorem tw12845980136372262300:True:=⟨⟩
theorem tw14450342058223839868:True:=⟨⟩
theorem tw2077273661385668461:True:=⟨⟩
theorem tw2031505004798437825:True:=⟨⟩
theorem tw12085911337850485965:True:=⟨⟩
theorem tw13582842084871185875:True:=⟨⟩
theorem tw3508177815431034550:True:=⟨⟩
theorem tw1355572785561620856:True:=⟨⟩
theorem tw9066675978480326791:True:=⟨⟩
theorem tw11269183032264183076:True:=⟨⟩
theorem tw11597413080521417726:True:=⟨⟩
theorem tw8905314321269638527:True:=⟨⟩
theorem tw9267459525717660019:True:=⟨⟩
theorem tw4101152094990004017:True:=⟨⟩
theorem tw15860651507856363661:True:=⟨⟩
theorem tw10355451984308546208:True:=⟨⟩
theorem tw12737323660639191252:True:=⟨⟩
theorem tw16277130987600832901:True:=⟨⟩
theorem tw9473022065927770394:True:=⟨⟩
theorem tw9330391052012870573:True:=⟨⟩
theorem tw2443822072780168941:True:=⟨⟩
theorem tw12386384471366356234:True:=⟨⟩
theorem tw16073908463551210360:True:=⟨⟩
theorem tw4489250292599655542:True:=⟨⟩
theorem tw8244961935004957788:True:=⟨⟩
theorem tw774046464906393522:True:=⟨⟩
theorem tw1535726943431658412:True:=⟨⟩
theorem tw13965735730100927384:True:=⟨⟩
theorem tw17539880881024207247:True:=⟨⟩
theorem tw976212167924105560:True:=⟨⟩
theorem tw3228721104588824261:True:=⟨⟩
theorem tw2299413653363928438:True:=⟨⟩
theorem tw8042030226722281090:True:=⟨⟩
theorem tw7368132243467186516:True:=⟨⟩
theorem tw9100382618482133591:True:=⟨⟩
theorem tw15239238744077738643:True:=⟨⟩
theorem tw2898816077303880193:True:=⟨⟩
theorem tw6582148625966499067:True:=⟨⟩
theorem tw1776085233831657205:True:=⟨⟩
theorem tw1590251357526012204:True:=⟨⟩
theorem tw10656996200952038916:True:=⟨⟩
theorem tw11096966056009503103:True:=⟨⟩
theorem tw17566173669604157023:True:=⟨⟩
theorem tw16559417377993891477:True:=⟨⟩
theorem tw13985522511319795584:True:=⟨⟩
theorem tw13089734353994548238:True:=⟨⟩
theorem tw5610473142925492676:True:=⟨⟩
theorem tw10523237595483646085:True:=⟨⟩
theorem tw2367899351711871558:True:=⟨⟩
theorem tw15422356437679583491:True:=⟨⟩
theorem tw16069376543889549878:True:=⟨⟩
theorem tw17552844573839369514:True:=⟨⟩
theorem tw5583625418770806466:True:=⟨⟩
theorem tw17483730518192279654:True:=⟨⟩
theorem tw16379203504991606256:True:=⟨⟩
theorem tw1221056950699123271:True:=⟨⟩
theorem tw10325259155701808195:True:=⟨⟩
theorem tw7018289658531974179:True:=⟨⟩
theorem tw11763998035481871776:True:=⟨⟩
theorem tw6648921148722647146:True:=⟨⟩
theorem tw15062802482323992580:True:=⟨⟩
theorem tw13394875498994657044:True:=⟨⟩
theorem tw4335794745101351811:True:=⟨⟩
theorem tw16238654904544110746:True:=⟨⟩
theorem tw8445907749955946190:True:=⟨⟩
theorem tw14334538816296317430:True:=⟨⟩
theorem tw15951976488621876843:True:=⟨⟩
theorem tw16906700173756581310:True:=⟨⟩
theorem tw8299876091690540403:True:=⟨⟩
theorem tw1944105814549400467:True:=⟨⟩
theorem tw10487778205886160101:True:=⟨⟩
theorem tw14791036633355290571:True:=⟨⟩
theorem tw17749990004280972654:True:=⟨⟩
theorem tw15376882190364238481:True:=⟨⟩
theorem tw11629754152547238528:True:=⟨⟩
theorem tw6804751351594673959:True:=⟨⟩
theorem tw14108781371028962485:True:=⟨⟩
theorem tw15685009072644913666:True:=⟨⟩
theorem tw15255242549303250235:True:=⟨⟩
theorem tw9408554668190184460:True:=⟨⟩
theorem tw15915128178123905779:True:=⟨⟩
theorem tw7669970669393498625:True:=⟨⟩
theorem tw6985413426859923260:True:=⟨⟩
theorem tw12917783933991558011:True:=⟨⟩
theorem tw10655596093747968545:True:=⟨⟩
theorem tw14278394848917788971:True:=⟨⟩
theorem tw16805079229823845663:True:=⟨⟩
theorem tw2774231995511332975:True:=⟨⟩
theorem tw14643150794248480064:True:=⟨⟩
theorem tw12901790572590195121:True:=⟨⟩
theorem tw6472012895709784939:True:=⟨⟩
theorem tw15334444857132714691:True:=⟨⟩
theorem tw1975812683404250117:True:=⟨⟩
theorem tw3139962162383524096:True:=⟨⟩
theorem tw9392101767666042363:True:=⟨⟩
theorem tw4958413445788550288:True:=⟨⟩
theorem tw15188164425418362426:True:=⟨⟩
theorem tw17750394372462129924:True:=⟨⟩
theorem tw7836487910036127241:True:=⟨⟩
theorem tw1956594975401209096:True:=⟨⟩
theorem tw2808397069347025345:True:=⟨⟩
theorem tw11325700643884963515:True:=⟨⟩
theorem tw5454837731563774972:True:=⟨⟩
theorem tw10601502298773689508:True:=⟨⟩
theorem tw6056171533068140044:True:=⟨⟩
theorem tw8429898208670372732:True:=⟨⟩
theorem tw10896766801825724700:True:=⟨⟩
theorem tw15416868140840496716:True:=⟨⟩
theorem tw4932688006534317748:True:=⟨⟩
theorem tw18206525416503560386:True:=⟨⟩
theorem tw14678046382447003016:True:=⟨⟩
theorem tw9447530393437354129:True:=⟨⟩
theorem tw1632452762445203411:True:=⟨⟩
theorem tw14219266072919832263:True:=⟨⟩
theorem tw3571876489756899707:True:=⟨⟩
theorem tw7535461807504077430:True:=⟨⟩
theorem tw6495295694508187229:True:=⟨⟩
theorem tw8087480806022450912:True:=⟨⟩
theorem tw13621037190642054871:True:=⟨⟩
theorem tw4678426493096694422:True:=⟨⟩
theorem tw15229774023574873672:True:=⟨⟩
theorem tw2732338301583656957:True:=⟨⟩
theorem tw16918640258354215149:True:=⟨⟩
theorem tw8648106238539328760:True:=⟨⟩
theorem tw51277808765396885:True:=⟨⟩
theorem tw10843901392348977494:True:=⟨⟩
theorem tw3004015365240941941:True:=⟨⟩
theorem tw10012957932969534817:True:=⟨⟩
theorem tw8405679583391186745:True:=⟨⟩
theorem tw14607973051046033338:True:=⟨⟩
theorem tw9611998874283170721:True:=⟨⟩
theorem tw16830541662500474618:True:=⟨⟩
theorem tw7108294596382943752:True:=⟨⟩
theorem tw693454471194104131:True:=⟨⟩
theorem tw3888871511701466858:True:=⟨⟩
theorem tw11224634041340717463:True:=⟨⟩
theorem tw17345478071281949538:True:=⟨⟩
theorem tw11031121862352926477:True:=⟨⟩
theorem tw10840026770011029234:True:=⟨⟩
theorem tw18001545873923309693:True:=⟨⟩
theorem tw798628308221981666:True:=⟨⟩
theorem tw13501881558110297203:True:=⟨⟩
theorem tw17693413302821118073:True:=⟨⟩
theorem tw501924202802884696:True:=⟨⟩
theorem tw4347127385901676666:True:=⟨⟩
theorem tw18129931522847243576:True:=⟨⟩
theorem tw1995921960233987766:True:=⟨⟩
theorem tw3200640994663601720:True:=⟨⟩
theorem tw10978299287171191986:True:=⟨⟩
theorem tw17305348416221083771:True:=⟨⟩
theorem tw13336331595177919314:True:=⟨⟩
theorem tw6672067922190093564:True:=⟨⟩
theorem tw11199801214110836810:True:=⟨⟩
theorem tw15900231488997733284:True:=⟨⟩
theorem tw7553958032636029326:True:=⟨⟩
theorem tw14793424332184232743:True:=⟨⟩
theorem tw10338313664347045969:True:=⟨⟩
theorem tw17654148387146516776:True:=⟨⟩
theorem tw9097487278454206667:True:=⟨⟩
theorem tw9321542434599816979:True:=⟨⟩
theorem tw5877344769923397603:True:=⟨⟩
theorem tw11874064200723854240:True:=⟨⟩
theorem tw17468739678624958935:True:=⟨⟩
theorem tw16938427253367904194:True:=⟨⟩
theorem tw15885226060260334082:True:=⟨⟩
theorem tw14566780357137267485:True:=⟨⟩
theorem tw13726206322143083366:True:=⟨⟩
theorem tw1042488647051567623:True:=⟨⟩
theorem tw13041575212832082409:True:=⟨⟩
theorem tw14970711467590295290:True:=⟨⟩
theorem tw803292637420064270:True:=⟨⟩
theorem tw11175068673406816043:True:=⟨⟩
theorem tw2644529386477823177:True:=⟨⟩
theorem tw14695845909605086363:True:=⟨⟩
theorem tw11774349067526981263:True:=⟨⟩
theorem tw11389270563860507489:True:=⟨⟩
theorem tw7627046270758846034:True:=⟨⟩
theorem tw8317602791959358540:True:=⟨⟩
theorem tw3725294898497800210:True:=⟨⟩
theorem tw8856593917280059683:True:=⟨⟩
theorem tw16730987188616277831:True:=⟨⟩
theorem tw213540333236975937:True:=⟨⟩
theorem tw11196384865371876734:True:=⟨⟩
theorem tw591264794085106152:True:=⟨⟩
theorem tw15372234289842145788:True:=⟨⟩
theorem tw5864316115078497763:True:=⟨⟩
theorem tw3219085121480374972:True:=⟨⟩
end PySem.W.Fast
open PySem PySem.W PyProof.Rows
set_option maxRecDepth 100000 in
set_option maxHeartbeats 0 in
theorem PySem.Challenge.cw_countgen_k07_whole_books_grounded_holds : PySem.Challenge.rw_countgen_k07_whole_books_grounded.Holds := by
 w_on;o_law;k_head;(case hw=>w_witness2)
 k_fill
 refine L2.Yg3 (l:=PySem.Challenge.rw_countgen_k07_whole_books_grounded) 31 "_law_script" KW.sJ ["_law_script","_law_many","_law_letter","_law_names","_law_shapes_here","_law_spoil","_law_ways","_law_text","_law_bare","_law_k","_law_due_here","_law_thing","_law_error","_law_found","e"] rfl rfl ⟨rfl,by decide,by decide,rfl⟩ KW.Xm (fun w h Y=>by first | exact PySem.W.kIn_of Y | exact PySem.W.km_in_of Y) ?F
 case F =>
  intro w mg h KX G;refine' ⟨L2.T9 KX G ?a ?l ?c ?k (fun _ _ _ _ _ _ _ _ => .of_eq rfl),fun base=>KW.Yf6 ⟨?Aa,?Ab,?Ac,?Ad,?Ae,?Af,?Ag,?Ah,?Ai,?Aj,?Zc,?Zd,?Ak,?Al,?Am,?Ao,?Aq,?Ar,?Av,?Aw,?Ax,?ZG,?Zl,?Zt,?Zq,?Zz,?Zi,?Ay,?Az,?Zm,?Ba,?Bb,?Zs,?Zy,?Bc,?Bd,?Bf,?Bg,?Bh,?Bj,?Bk,?Bl,?Bm,?Bo,?Bp,?Bq,?Br,?Bs,?Bt,?Bu,?Bv,?Bw,?Bx,?BJ,?Z7,?Za,?Z9,?BK,?ZO,?pU,?ZD,?pZ,?ZR,?p8,?pX,?ZS,?ZH,?qp,?gU,?iH,?Zb,?aA,?gJ,?jQ,?Zv,?gW,?aU,?Zj,?fO,?aj,?bH,?dD,?eO,?fL,?gk,?dH,?iB,?ak,?gK,?fQ,?aZ,?aQ,?bM,?bN,?bf,?cQ,?iK,?iM,?aY,?gO,?cG,?bT,?cX,?cW,?cH,?dN,?bA,?bW,?bI,?cN,?cM,?bY,?dz,?bh,?dj,?cL,?dX,?dW,?dw,?eF,?bK,?cU,?cF,?dM,?dJ,?cV,?d8,?bJ,?cI,?bU,?dh,?cZ,?cJ,?dU,?bB,?dO,?cY,?eE,?d9,?dR,?fj,?bZ,?aX,?bC,?cg,?bD,?bL,?bw⟩ _ w base⟩;(case a=>k_is);(case l=>k_is);(case c=>k_is);(case k=>k_is)
  case Af =>
   refine' L2.T8 KX G ["self","text"] ?aC ?mk ?kc ?a ?i ?l ?c ?k (fun _ _ _ _ _ _ us hl=>by obtain ⟨_,_,rfl⟩:=KW.gj hl;rfl);(case aC=>k_is);(case mk=>k_is);(case kc=>k_is);(case a=>k_is);(case i=>k_is);(case l=>k_is);(case c=>k_is);(case k=>k_is)
  case Aa =>
   refine' L2.YA KX G ["sign"] ?a ?l ?c ?k (fun _ _ _ _ _ _ us hl=>by obtain ⟨_,rfl⟩:=KW.aV hl;rfl);(case a=>k_is);(case l=>k_is);(case c=>k_is);(case k=>k_is)
  case Ab =>
   refine' L2.YA KX G ["sign"] ?a ?l ?c ?k (fun _ _ _ _ _ _ us hl=>by obtain ⟨_,rfl⟩:=KW.aV hl;rfl);(case a=>k_is);(case l=>k_is);(case c=>k_is);(case k=>k_is)
  case Ac =>
   refine' L2.YA KX G ["sign"] ?a ?l ?c ?k (fun _ _ _ _ _ _ us hl=>by obtain ⟨_,rfl⟩:=KW.aV hl;rfl);(case a=>k_is);(case l=>k_is);(case c=>k_is);(case k=>k_is)
  case Ad =>
   refine' L2.YA KX G ["sign"] ?a ?l ?c ?k (fun _ _ _ _ _ _ us hl=>by obtain ⟨_,rfl⟩:=KW.aV hl;rfl);(case a=>k_is);(case l=>k_is);(case c=>k_is);(case k=>k_is)
  case Ae =>
   refine' L2.YA KX G ["text"] ?a ?l ?c ?k (fun _ _ _ _ _ _ us hl=>by obtain ⟨_,rfl⟩:=KW.aV hl;rfl);(case a=>k_is);(case l=>k_is);(case c=>k_is);(case k=>k_is)
  case Ag =>
   refine' L2.Vi KX G ["self"] ?a ?i ?l ?c ?k (fun _ _ _ _ _ _ us hl=>by obtain ⟨_,rfl⟩:=KW.aV hl;rfl);(case a=>k_is);(case i=>k_is);(case l=>k_is);(case c=>k_is);(case k=>k_is)
  case Ah =>
   refine' L2.Vi KX G ["self","sign"] ?a ?i ?l ?c ?k (fun _ _ _ _ _ _ us hl=>by obtain ⟨_,_,rfl⟩:=KW.gj hl;rfl);(case a=>k_is);(case i=>k_is);(case l=>k_is);(case c=>k_is);(case k=>k_is)
  case Ai =>
   refine' L2.Vi KX G ["self"] ?a ?i ?l ?c ?k (fun _ _ _ _ _ _ us hl=>by obtain ⟨_,rfl⟩:=KW.aV hl;rfl);(case a=>k_is);(case i=>k_is);(case l=>k_is);(case c=>k_is);(case k=>k_is)
  case Aj =>
   refine' L2.Vi KX G ["self"] ?a ?i ?l ?c ?k (fun _ _ _ _ _ _ us hl=>by obtain ⟨_,rfl⟩:=KW.aV hl;rfl);(case a=>k_is);(case i=>k_is);(case l=>k_is);(case c=>k_is);(case k=>k_is)
  case Zc =>
   refine' L2.Vi KX G ["self"] ?a ?i ?l ?c ?k (fun _ _ _ _ _ _ us hl=>by obtain ⟨_,rfl⟩:=KW.aV hl;rfl);(case a=>k_is);(case i=>k_is);(case l=>k_is);(case c=>k_is);(case k=>k_is)
  case Zd =>
   refine' L2.Vi KX G ["self"] ?a ?i ?l ?c ?k (fun _ _ _ _ _ _ us hl=>by obtain ⟨_,rfl⟩:=KW.aV hl;rfl);(case a=>k_is);(case i=>k_is);(case l=>k_is);(case c=>k_is);(case k=>k_is)
  case Ak =>
   refine' L2.YA KX G ["text"] ?a ?l ?c ?k (fun _ _ _ _ _ _ us hl=>by obtain ⟨_,rfl⟩:=KW.aV hl;rfl);(case a=>k_is);(case l=>k_is);(case c=>k_is);(case k=>k_is)
  case Al =>
   refine' L2.YA KX G ["text"] ?a ?l ?c ?k (fun _ _ _ _ _ _ us hl=>by obtain ⟨_,rfl⟩:=KW.aV hl;rfl);(case a=>k_is);(case l=>k_is);(case c=>k_is);(case k=>k_is)
  case Am =>
   refine' L2.YA KX G ["word"] ?a ?l ?c ?k (fun _ _ _ _ _ _ us hl=>by obtain ⟨_,rfl⟩:=KW.aV hl;rfl);(case a=>k_is);(case l=>k_is);(case c=>k_is);(case k=>k_is)
  case Ao =>
   refine' L2.YA KX G ["note"] ?a ?l ?c ?k (fun _ _ _ _ _ _ us hl=>by obtain ⟨_,rfl⟩:=KW.aV hl;rfl);(case a=>k_is);(case l=>k_is);(case c=>k_is);(case k=>k_is)
  case Aq =>
   refine' L2.YA KX G ["notes","least","most"] ?a ?l ?c ?k (fun _ _ _ _ _ _ us hl=>by obtain ⟨_,_,_,rfl⟩:=KW.us3 hl;rfl);(case a=>k_is);(case l=>k_is);(case c=>k_is);(case k=>k_is)
  case Ar =>
   refine' L2.YA KX G ["note"] ?a ?l ?c ?k (fun _ _ _ _ _ _ us hl=>by obtain ⟨_,rfl⟩:=KW.aV hl;rfl);(case a=>k_is);(case l=>k_is);(case c=>k_is);(case k=>k_is)
  case Av =>
   refine' L2.YA KX G ["name"] ?a ?l ?c ?k (fun _ _ _ _ _ _ us hl=>by obtain ⟨_,rfl⟩:=KW.aV hl;rfl);(case a=>k_is);(case l=>k_is);(case c=>k_is);(case k=>k_is)
  case Aw =>
   refine' L2.YA KX G ["notes"] ?a ?l ?c ?k (fun _ _ _ _ _ _ us hl=>by obtain ⟨_,rfl⟩:=KW.aV hl;rfl);(case a=>k_is);(case l=>k_is);(case c=>k_is);(case k=>k_is)
  case Ax =>
   refine' L2.YA KX G ["notes"] ?a ?l ?c ?k (fun _ _ _ _ _ _ us hl=>by obtain ⟨_,rfl⟩:=KW.aV hl;rfl);(case a=>k_is);(case l=>k_is);(case c=>k_is);(case k=>k_is)
  case ZG =>
   refine' L2.YA KX G ["notes"] ?a ?l ?c ?k (fun _ _ _ _ _ _ us hl=>by obtain ⟨_,rfl⟩:=KW.aV hl;rfl);(case a=>k_is);(case l=>k_is);(case c=>k_is);(case k=>k_is)
  case Zl =>
   refine' L2.YA KX G ["kind","notes"] ?a ?l ?c ?k (fun _ _ _ _ _ _ us hl=>by obtain ⟨_,_,rfl⟩:=KW.gj hl;rfl);(case a=>k_is);(case l=>k_is);(case c=>k_is);(case k=>k_is)
  case Zt =>
   refine' L2.YA KX G ["notes"] ?a ?l ?c ?k (fun _ _ _ _ _ _ us hl=>by obtain ⟨_,rfl⟩:=KW.aV hl;rfl);(case a=>k_is);(case l=>k_is);(case c=>k_is);(case k=>k_is)
  case Zq =>
   refine' L2.YA KX G ["note"] ?a ?l ?c ?k (fun _ _ _ _ _ _ us hl=>by obtain ⟨_,rfl⟩:=KW.aV hl;rfl);(case a=>k_is);(case l=>k_is);(case c=>k_is);(case k=>k_is)
  case Zz =>
   refine' L2.YA KX G ["notes"] ?a ?l ?c ?k (fun _ _ _ _ _ _ us hl=>by obtain ⟨_,rfl⟩:=KW.aV hl;rfl);(case a=>k_is);(case l=>k_is);(case c=>k_is);(case k=>k_is)
  case Zi =>
   refine' L2.YA KX G ["note"] ?a ?l ?c ?k (fun _ _ _ _ _ _ us hl=>by obtain ⟨_,rfl⟩:=KW.aV hl;rfl);(case a=>k_is);(case l=>k_is);(case c=>k_is);(case k=>k_is)
  case Ay =>
   refine' L2.YA KX G ["text"] ?a ?l ?c ?k (fun _ _ _ _ _ _ us hl=>by obtain ⟨_,rfl⟩:=KW.aV hl;rfl);(case a=>k_is);(case l=>k_is);(case c=>k_is);(case k=>k_is)
  case Az =>
   refine' L2.YA KX G ["shape"] ?a ?l ?c ?k (fun _ _ _ _ _ _ us hl=>by obtain ⟨_,rfl⟩:=KW.aV hl;rfl);(case a=>k_is);(case l=>k_is);(case c=>k_is);(case k=>k_is)
  case Zm =>
   refine' L2.YA KX G ["shape"] ?a ?l ?c ?k (fun _ _ _ _ _ _ us hl=>by obtain ⟨_,rfl⟩:=KW.aV hl;rfl);(case a=>k_is);(case l=>k_is);(case c=>k_is);(case k=>k_is)
  case Ba =>
   refine' L2.YA KX G ["draft"] ?a ?l ?c ?k (fun _ _ _ _ _ _ us hl=>by obtain ⟨_,rfl⟩:=KW.aV hl;rfl);(case a=>k_is);(case l=>k_is);(case c=>k_is);(case k=>k_is)
  case Bb =>
   refine' L2.YA KX G ["draft"] ?a ?l ?c ?k (fun _ _ _ _ _ _ us hl=>by obtain ⟨_,rfl⟩:=KW.aV hl;rfl);(case a=>k_is);(case l=>k_is);(case c=>k_is);(case k=>k_is)
  case Zs =>
   refine' L2.YA KX G ["shape"] ?a ?l ?c ?k (fun _ _ _ _ _ _ us hl=>by obtain ⟨_,rfl⟩:=KW.aV hl;rfl);(case a=>k_is);(case l=>k_is);(case c=>k_is);(case k=>k_is)
  case Zy =>
   refine' L2.YA KX G ["shape"] ?a ?l ?c ?k (fun _ _ _ _ _ _ us hl=>by obtain ⟨_,rfl⟩:=KW.aV hl;rfl);(case a=>k_is);(case l=>k_is);(case c=>k_is);(case k=>k_is)
  case Bc =>
   refine' L2.YA KX G ["shape"] ?a ?l ?c ?k (fun _ _ _ _ _ _ us hl=>by obtain ⟨_,rfl⟩:=KW.aV hl;rfl);(case a=>k_is);(case l=>k_is);(case c=>k_is);(case k=>k_is)
  case Bd =>
   refine' L2.YA KX G ["book","name"] ?a ?l ?c ?k (fun _ _ _ _ _ _ us hl=>by obtain ⟨_,_,rfl⟩:=KW.gj hl;rfl);(case a=>k_is);(case l=>k_is);(case c=>k_is);(case k=>k_is)
  case Bf =>
   refine' L2.YA KX G ["rows"] ?a ?l ?c ?k (fun _ _ _ _ _ _ us hl=>by obtain ⟨_,rfl⟩:=KW.aV hl;rfl);(case a=>k_is);(case l=>k_is);(case c=>k_is);(case k=>k_is)
  case Bg =>
   refine' L2.YA KX G ["row"] ?a ?l ?c ?k (fun _ _ _ _ _ _ us hl=>by obtain ⟨_,rfl⟩:=KW.aV hl;rfl);(case a=>k_is);(case l=>k_is);(case c=>k_is);(case k=>k_is)
  case Bh =>
   refine' L2.YA KX G ["book"] ?a ?l ?c ?k (fun _ _ _ _ _ _ us hl=>by obtain ⟨_,rfl⟩:=KW.aV hl;rfl);(case a=>k_is);(case l=>k_is);(case c=>k_is);(case k=>k_is)
  case Bj =>
   refine' L2.YA KX G ["book"] ?a ?l ?c ?k (fun _ _ _ _ _ _ us hl=>by obtain ⟨_,rfl⟩:=KW.aV hl;rfl);(case a=>k_is);(case l=>k_is);(case c=>k_is);(case k=>k_is)
  case Bk =>
   refine' L2.YA KX G ["book"] ?a ?l ?c ?k (fun _ _ _ _ _ _ us hl=>by obtain ⟨_,rfl⟩:=KW.aV hl;rfl);(case a=>k_is);(case l=>k_is);(case c=>k_is);(case k=>k_is)
  case Bl =>
   refine' L2.YA KX G ["book","name"] ?a ?l ?c ?k (fun _ _ _ _ _ _ us hl=>by obtain ⟨_,_,rfl⟩:=KW.gj hl;rfl);(case a=>k_is);(case l=>k_is);(case c=>k_is);(case k=>k_is)
  case Bm =>
   refine' L2.YA KX G ["book"] ?a ?l ?c ?k (fun _ _ _ _ _ _ us hl=>by obtain ⟨_,rfl⟩:=KW.aV hl;rfl);(case a=>k_is);(case l=>k_is);(case c=>k_is);(case k=>k_is)
  case Bo =>
   refine' L2.YA KX G ["text"] ?a ?l ?c ?k (fun _ _ _ _ _ _ us hl=>by obtain ⟨_,rfl⟩:=KW.aV hl;rfl);(case a=>k_is);(case l=>k_is);(case c=>k_is);(case k=>k_is)
  case Bp =>
   refine' L2.YA KX G ["_law_script","_law_k"] ?a ?l ?c ?k (fun _ _ _ _ _ _ us hl=>by obtain ⟨_,_,rfl⟩:=KW.gj hl;rfl);(case a=>k_is);(case l=>k_is);(case c=>k_is);(case k=>k_is)
  case Bq =>
   refine' L2.YA KX G ["_law_cell","_law_names"] ?a ?l ?c ?k (fun _ _ _ _ _ _ us hl=>by obtain ⟨_,_,rfl⟩:=KW.gj hl;rfl);(case a=>k_is);(case l=>k_is);(case c=>k_is);(case k=>k_is)
  case Br =>
   refine' L2.YA KX G ["_law_parts","_law_k"] ?a ?l ?c ?k (fun _ _ _ _ _ _ us hl=>by obtain ⟨_,_,rfl⟩:=KW.gj hl;rfl);(case a=>k_is);(case l=>k_is);(case c=>k_is);(case k=>k_is)
  case Bs =>
   refine' L2.YA KX G ["_law_name","_law_shape_here","_law_way","_law_first"] ?a ?l ?c ?k (fun _ _ _ _ _ _ us hl=>by obtain ⟨_,_,_,_,rfl⟩:=KW.NP hl;rfl);(case a=>k_is);(case l=>k_is);(case c=>k_is);(case k=>k_is)
  case Bt =>
   refine' L2.YA KX G ["_law_text","_law_edge"] ?a ?l ?c ?k (fun _ _ _ _ _ _ us hl=>by obtain ⟨_,_,rfl⟩:=KW.gj hl;rfl);(case a=>k_is);(case l=>k_is);(case c=>k_is);(case k=>k_is)
  case Bu =>
   refine' L2.YA KX G ["_law_thing","_law_ways"] ?a ?l ?c ?k (fun _ _ _ _ _ _ us hl=>by obtain ⟨_,_,rfl⟩:=KW.gj hl;rfl);(case a=>k_is);(case l=>k_is);(case c=>k_is);(case k=>k_is)
  case Bv =>
   refine' L2.YA KX G ["_law_names","_law_bare"] ?a ?l ?c ?k (fun _ _ _ _ _ _ us hl=>by obtain ⟨_,_,rfl⟩:=KW.gj hl;rfl);(case a=>k_is);(case l=>k_is);(case c=>k_is);(case k=>k_is)
  case Bw =>
   refine' L2.YA KX G ["_law_error"] ?a ?l ?c ?k (fun _ _ _ _ _ _ us hl=>by obtain ⟨_,rfl⟩:=KW.aV hl;rfl);(case a=>k_is);(case l=>k_is);(case c=>k_is);(case k=>k_is)
  case Bx =>
   refine' L2.YA KX G ["_law_ways","_law_many","_law_names","_law_bare"] ?a ?l ?c ?k (fun _ _ _ _ _ _ us hl=>by obtain ⟨_,_,_,_,rfl⟩:=KW.NP hl;rfl);(case a=>k_is);(case l=>k_is);(case c=>k_is);(case k=>k_is)
  case BJ =>
   refine' L2.YA KX G ["_law_script","_law_names"] ?a ?l ?c ?k (fun _ _ _ _ _ _ us hl=>by obtain ⟨_,_,rfl⟩:=KW.gj hl;rfl);(case a=>k_is);(case l=>k_is);(case c=>k_is);(case k=>k_is)
  case Z7 =>
   refine' ⟨?a,?b,?c,?d⟩;(case a=>k_is);(case b=>k_is);(case c=>k_is);(case d=>k_is)
  case Za =>
   refine' L2.GC ?a;(case a=>k_is)
  case Z9 =>
   refine' L2.GC ?a;(case a=>k_is)
  case BK =>
   refine' L2.X6 KX G ?a;(case a=>k_is)
  case ZO =>
   refine' L2.X6 KX G ?a;(case a=>k_is)
  case pU =>
   refine' L2.X6 KX G ?a;(case a=>k_is)
  case ZD =>
   refine' L2.X6 KX G ?a;(case a=>k_is)
  case pZ =>
   refine' L2.X6 KX G ?a;(case a=>k_is)
  case ZR =>
   refine' L2.X6 KX G ?a;(case a=>k_is)
  case p8 =>
   refine' L2.X6 KX G ?a;(case a=>k_is)
  case pX =>
   refine' L2.X6 KX G ?a;(case a=>k_is)
  case ZS =>
   refine' L2.X6 KX G ?a;(case a=>k_is)
  case ZH =>
   refine' L2.Yg8 KX G ?a ?l ?z ?r;(case a=>k_is);(case l=>k_is);(case z=>decide);(case r=>exact (.cons ⟨_,rfl⟩ (.cons ⟨_,rfl⟩ (.cons ⟨_,rfl⟩ .nil))))
  case qp =>
   refine' PySem.W.mg_none_of KX G ?a;(case a=>k_is)
  case gU =>
   refine' PySem.W.mg_none_of KX G ?a;(case a=>k_is)
  case iH =>
   refine' PySem.W.mg_none_of KX G ?a;(case a=>k_is)
  case Zb =>
   refine' PySem.W.mg_none_of KX G ?a;(case a=>k_is)
  case aA =>
   refine' PySem.W.mg_none_of KX G ?a;(case a=>k_is)
  case gJ =>
   refine' PySem.W.mg_none_of KX G ?a;(case a=>k_is)
  case jQ =>
   refine' PySem.W.mg_none_of KX G ?a;(case a=>k_is)
  case Zv =>
   refine' PySem.W.mg_none_of KX G ?a;(case a=>k_is)
  case gW =>
   refine' PySem.W.mg_none_of KX G ?a;(case a=>k_is)
  case aU =>
   refine' PySem.W.mg_none_of KX G ?a;(case a=>k_is)
  case Zj =>
   refine' PySem.W.mg_none_of KX G ?a;(case a=>k_is)
  case fO =>
   refine' PySem.W.mg_of KX G ?a;(case a=>k_is)
  case aj =>
   refine' PySem.W.mg_of KX G ?a;(case a=>k_is)
  case bH =>
   refine' PySem.W.mg_of KX G ?a;(case a=>k_is)
  case dD =>
   refine' PySem.W.mg_of KX G ?a;(case a=>k_is)
  case eO =>
   refine' PySem.W.mg_of KX G ?a;(case a=>k_is)
  case fL =>
   refine' PySem.W.mg_of KX G ?a;(case a=>k_is)
  case gk =>
   refine' PySem.W.mg_of KX G ?a;(case a=>k_is)
  case iK =>
   refine' L2.Yhe KX G ["self","ring"] ?aC ?a ?o ?i ?l ?c ?k (fun _ _ _ _ _ _ us hl=>by obtain ⟨_,_,rfl⟩:=KW.gj hl;rfl);(case aC=>k_is);(case a=>k_is);(case o=>kernel_rfl);(case i=>k_is);(case l=>k_is);(case c=>k_is);(case k=>k_is)
  case iM =>
   refine' ⟨?a,?b,?c⟩;(case a=>k_is);(case b=>kernel_rfl);(case c=>k_is)
  case aY=>k_is
  case gO =>
   refine' L2.YfT KX G ?a ?b ?c ?d;(case a=>k_is);(case b=>k_is);(case c=>k_is);(case d=>k_is)
  case dH=>k_exc
  case iB=>k_exc
  case ak=>k_exc
  case gK=>k_exc
  case fQ=>k_exc
  case aZ =>
   refine' ⟨?a,?b,?c,?d,?e,?f⟩;(case a=>k_is);(case b=>k_is);(case c=>k_is);(case d=>k_is);(case e=>k_is);(case f=>k_is)
  case aQ =>
   refine' ⟨?a,?b,?c,?d,?e,?f⟩;(case a=>k_is);(case b=>k_is);(case c=>k_is);(case d=>k_is);(case e=>k_is);(case f=>k_is)
  case bM =>
   refine' ⟨?a,?b,?c,?d,?e,?f⟩;(case a=>k_is);(case b=>k_is);(case c=>k_is);(case d=>k_is);(case e=>k_is);(case f=>k_is)
  case bN =>
   refine' ⟨?a,?b,?c,?d,?e,?f⟩;(case a=>k_is);(case b=>k_is);(case c=>k_is);(case d=>k_is);(case e=>k_is);(case f=>k_is)
  case bf =>
   refine' ⟨?a,?b,?c,?d,?e,?f⟩;(case a=>k_is);(case b=>k_is);(case c=>k_is);(case d=>k_is);(case e=>k_is);(case f=>k_is)
  case cQ =>
   refine' ⟨?a,?b,?c,?d,?e,?f⟩;(case a=>k_is);(case b=>k_is);(case c=>k_is);(case d=>k_is);(case e=>k_is);(case f=>k_is)
  case cG=>kit_is
  case bT=>kit_is
  case cX=>kit_is
  case cW=>kit_is
  case cH=>kit_is
  case dN=>kit_is
  case bA=>kit_is
  case bW=>kit_is
  case bI=>kit_is
  case cN=>kit_is
  case cM=>kit_is
  case bY=>kit_is
  case dz=>kit_is
  case bh=>kit_is
  case dj=>kit_is
  case cL=>kit_is
  case dX=>kit_is
  case dW=>kit_is
  case dw=>kit_is
  case eF=>kit_is
  case bK=>kit_is
  case cU=>kit_is
  case cF=>kit_is
  case dM=>kit_is
  case dJ=>kit_is
  case cV=>kit_is
  case d8=>kit_is
  case bJ=>kit_is
  case cI=>kit_is
  case bU=>kit_is
  case dh=>kit_is
  case cZ=>kit_is
  case cJ=>kit_is
  case dU=>kit_is
  case bB=>kit_is
  case dO=>kit_is
  case cY=>kit_is
  case eE=>kit_is
  case d9=>kit_is
  case dR=>kit_is
  case fj=>kit_is
  case bZ=>kit_is
  case aX=>kts_exm
  case bC=>kts_exm
  case cg=>kts_exm
  case bD=>kts_exm
  case bL=>kts_exm
  case bw=>kts_exm
