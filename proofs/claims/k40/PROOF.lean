import PyProof.Rows.All
import Wide.FinOn
import OpenK.KMake
import OpenK.KLine
import KE.IntBitsLaws
import KE.KEqDict
import KE.KLam
import KE.KNestM
import KE.KTryMore
import KE.KTryOn
import KE.RegKIsAll
import KE.RegKTryMore
import PyProof.ExcBaseAll.ValueError
import PyProof.ExcArgsOwn
import PyProof.TupleCall
import PyProof.CollectIter
import PyProof.CallFns
import KE.KItem
import KE.LcSums
import KE.KItemsList
import KE.KIntText
import KE.KDictOf
import PySem.Challenge.RW_countgen_k40_all_values
set_option compiler.extract_closed false
open PySem renaming Value→Α,Shared→Δ,PyData→Ζ,wpAny_bind→Θ,wpAny_pure→Ν,wpAny→Χ,model→Ω,Program→ζ,starEach→θ,World→ν,Around→ag,mainGlobals→aE,wpAny_mono→bb,wpAny_newObj_type→bj,mem_of_lookup→bv,backTo→bS,compEnvC→cr,binaryOp→cw,compareOp→da,Scope→db,bootBuiltins→dn,wpAny_passesOwn→dE,cellsFrom→ez,getItem→eP,sysModules→eQ,letOwnedTupleGo→eR,wpAny_Call_Name_kw→eW,FuncData→fh,NameKind→fw,wpAny_call_entry→fE,attributeBase→fI,codeAny→fN,cLine→gc,assignEach→gv,foldedSetIterable→gy,wpAny_field→gz,keywordEach→gE,bindArgs→gS,wpAny_specialOf→ie,wpAny_execs_nil→ii,callerA→io,getMethod→iA,wpAny_holding→iE,behindInMarks→iF,sliceRange→iL,backToKw→iP,wpAny_typeOf→iS,codeAny_mono→iX
open List renaming length_map→Β,getElem?_eq_getElem→Ε,getElem?_eq_some_iff→Η,getElem?_map→Λ,length_append→Μ,mem_singleton→Ξ,mem_of_getElem?→Τ,lookup_cons→Υ,mem_cons→Φ,range→η,size_toArray→ξ,length_cons→χ,mem_append_right→ψ,map_cons→aa,not_mem_nil→ac,getD_eq_getElem?_getD→ae,take_of_length_le→af,mem_map→ar,length_singleton→av,getElem?_append_left→aw,Nodup→ax,length_take→ay,getElem?_append_right→az,getElem?_range→aI,length_range→aS,find?_cons→aT,append_nil→a4,map_congr_left→a5,mem_range→a7,map_append→a8,mem_flatMap→a9,mem_append→bg,map_map→bn,mem_cons_of_mem→bp,drop_eq_nil_of_le→bt,append_assoc→bu,length_reverse→bz,cons→bX,lookup→b9,range_succ→cK,nodup_cons→cS,find?_eq_some_iff_getElem→c9,take_length→di,idxOf_lt_length_of_mem→dC,length_replicate→d5,sum_cons→ef,flatMap_cons→ej,getElem?_zip_eq_some→et,take_zero→eC,map_nil→eI,replicate→ft,filterMap_append→fv,mem_append_left→fF,take_succ_cons→fS,filterMap_cons→f7,mem_cons_self→gm,filterMap_map→gs,length_drop→gV,filter_cons→g7,drop_length→g9,nil_append→ik,length_nil→il,length→ix
open Option.some renaming inj→Γ
open PySem.W renaming Frag→Ι,fnOf→dv,kia_one→eA,callWith_K→fb,keepIn→ff,findIn→fg,emptyDict→fk,instObj→ge,codeIn→iq
open Nat renaming le_refl→Κ,le_trans→Ο,zero_le→ι,ne_of_lt→ς,lt_of_lt_of_le→τ,succ_le_succ→b4,add_sub_cancel→b6,lt_irrefl→ce,add_le_add→ck,div_le_self→cE,mul_le_mul_right→c8,le_succ→dm,pow_le_pow_right→em,sub_self→fq,lt_of_le_of_lt→gi,add_assoc→gN,succ_mul→ib,le_of_lt→ic,min_eq_left→ij,not_lt→iN,zero_max→i3,max_zero→i4,le_of_eq→i5
open PySem.Heap renaming get?_push_of_some→Ρ,lt_size→Ψ,get?_push_size→ah,SameBut→br,size_push→ir
open PySem.PyData renaming depthAll→δ,depth→υ,strOk→bc,eqv→cz,canLayAll0→ei,canLay0→eB,eqvAll→gI
open Option renaming map_eq_some_iff→ε,map_some→dQ
open PySem.NameKind renaming free→ο,cell→ci
open Bool renaming false_ne_true→ρ,false_eq_true→dA,eq_false_iff→ek,and_eq_true→eJ,eq_iff_iff→im
open PySem.Value renaming ref→ω,str→hW,none→ia,int→ja,bool→jj
open PySem.PassesOwn renaming never→ai
open Ne renaming symm→am
open PySem.Builtin.Slice renaming slicePlaces→a6,sliceAdjust→bP,sliceApplied→eh
open PySem.Builtin.Tuple renaming tupleExact→ba,tupleHashOf→bE
open Int renaming toNat_natCast→bm,natCast_add→dS,emod_nonneg→d3,eq_ofNat_of_zero_le→eM,natCast_mul→eS,natCast_nonneg→fc,ediv_one→gg,lt_or_eq_of_le→gt,emod_lt_of_pos→gu,zero_add→i6,mul_zero→i7,toNat→jb
open PySem.Builtin.Str renaming strSliceIndices→bo
open PySem.PyData.tuple renaming injEq→b5
open List.cons renaming injEq→b7
open PyProof.Rows renaming callWith_type1→b8,slot_tuple_getitem→cq,AllBare→hV,slicePart_none→ip
open False renaming elim→ca
open ForInStep renaming yield→c6
open PySem.F renaming plainAttrs_list→de,type_list_append→eK,slot_list_append→eL
open PySem.Builtin.Range renaming rangeSize→df
open True renaming intro→dk
open PySem.Str renaming ofString→dq,length→jn
open Sum renaming inr→fo,inl→iO
open Array renaming length_toList→f8
open PySem.Code renaming isFrame→i8
open PySem.Around renaming under→i9
set_option Elab.async false
set_option linter.all false
set_option maxRecDepth 100000
namespace L2
open PySem PySem.Spec PyProof.Rows
abbrev Key:=Sum Int Str
def Ui:Key->Α->Bool
 | .inl k,v=>Value.isInt k v
 | .inr x,v=>Value.isStrOf x v
def M5 (w:ν):Key->Int
 | .inl k=>hashInt k
 | .inr x=>hashStr w x
theorem Xh:∀ {k:Key} {v:Α},Ui k v=true->(∃ i t,k=iO i/\v=ja i t)\/(∃ x t,k=fo x/\v=hW x t)
 | .inl i,v,h=>by
  obtain ⟨t,e⟩:=Value.isInt_shape (k:=i) (v:=v) h;exact .inl ⟨i,t,rfl,e⟩
 | .inr x,v,h=>by
  obtain ⟨t,e⟩:=Value.isStrOf_shape (x:=x) (v:=v) h;exact .inr ⟨x,t,rfl,e⟩
theorem Oj (i:Int) (t:Tok):Ui (.inl i) (.int i t)=true:=by simp [Ui,Value.isInt]
theorem Ol (x:Str) (t:Tok):Ui (.inr x) (.str x t)=true:=by simp [Ui,Value.isStrOf]
theorem Om (a b:Int):decide ((iO a:Key)=iO b)=(a==b):=by
 by_cases e:a=b
 ·subst e;simp
 ·have h:¬ (iO a:Key)=iO b:=λq=>e (Sum.inl.inj q)
  rw [decide_eq_false h];exact (beq_eq_false_iff_ne.mpr e).symm
theorem Oo (a b:Str):decide ((fo a:Key)=fo b)=decide (a=b):=by
 by_cases e:a=b
 ·subst e;simp
 ·have h:¬ (fo a:Key)=fo b:=λq=>e (Sum.inr.inj q)
  rw [decide_eq_false h,decide_eq_false e]
theorem Oq (a:Int) (b:Str):decide ((iO a:Key)=fo b)=false:=decide_eq_false (λq=>nomatch q)
theorem Ot (a:Str) (b:Int):decide ((fo a:Key)=iO b)=false:=decide_eq_false (λq=>nomatch q)
def YX (prog:ζ) (w:ν):PySem.KeyKind prog w Key where
 is:=Ui
 hash:=M5 w
 inj:=λv a b ha hb=>by
  rcases Xh ha with ⟨i,t,rfl,rfl⟩ | ⟨x,t,rfl,rfl⟩
  ·rcases Xh hb with ⟨j,u,rfl,e⟩ | ⟨y,u,rfl,e⟩
   ·injection e with e1 _;rw [e1]
   ·exact nomatch e
  ·rcases Xh hb with ⟨j,u,rfl,e⟩ | ⟨y,u,rfl,e⟩
   ·exact nomatch e
   ·injection e with e1 _;rw [e1]
 byValue:=λk v h=>by
  rcases Xh h with ⟨i,t,rfl,rfl⟩ | ⟨x,t,rfl,rfl⟩<;>rfl
 pyHash:=λhv h=>by
  rcases Xh hv with ⟨i,t,rfl,rfl⟩ | ⟨x,t,rfl,rfl⟩
  ·exact wpAny_pyHash_int h
  ·exact wpAny_pyHash_str h
 eqBool:=λhu hv h=>by
  rcases Xh hu with ⟨i,t,rfl,rfl⟩ | ⟨x,t,rfl,rfl⟩
  ·rcases Xh hv with ⟨j,u,rfl,rfl⟩ | ⟨y,u,rfl,rfl⟩
   ·rw [Om] at h;exact wpAny_eqBool_int h
   ·rw [Oq] at h;exact SeqAt.EqAt.int_str i t y u _ _ _ _ h
  ·rcases Xh hv with ⟨j,u,rfl,rfl⟩ | ⟨y,u,rfl,rfl⟩
   ·rw [Ot] at h;exact SeqAt.EqAt.str_int x t j u _ _ _ _ h
   ·rw [Oo] at h;exact wpAny_eqBool_str h
 «strs»:=λk x t v h=>by
  rcases Xh h with ⟨i,u,rfl,e⟩ | ⟨y,u,rfl,e⟩
  ·exact nomatch e
  ·injection e with e1 _
   subst e1
   cases v<;>rfl
theorem Ou (prog:ζ) (w:ν) (i:Int) (t:Tok):(YX prog w).is (.inl i) (.int i t)=true:=Oj i t
theorem Uz (prog:ζ) (w:ν) (x:Str) (t:Tok):(YX prog w).is (.inr x) (.str x t)=true:=Ol x t
inductive V where
 | non | bl (b:Bool) | int (i:Int) | str (x:Str) | fJ (b:Array UInt8) | flt (b:UInt64) | ref (a:Addr) | ty (n:String)
 deriving DecidableEq
def YD:V->Α->Prop
 | .non,u=>u=ia
 | .bl b,u=>u=jj b
 | .int i,u=>∃ t,u=ja i t
 | .str x,u=>∃ t,u=hW x t
 | .fJ b,u=>∃ t,u=Value.bytes b t
 | .flt b,u=>∃ t,u=Value.float b t
 | .ref a,u=>u=ω a
 | .ty n,u=>u=Value.type n
abbrev Yt:List V->List Α->Prop:=Paired YD
theorem Yt.length {xs:List V} {us:List Α} (r:Yt xs us):xs.length=us.length:=Paired.length r
theorem Yt.get:∀ {xs:List V} {us:List Α} {i:Nat} {x:V},Yt xs us->xs[i]?=some x->∃ u,us[i]?=some u/\YD x u
 | _,_,_,_,.nil,e=>by simp at e
 | _,_,0,_,.cons r _,e=>by simp at e;subst e;exact ⟨_,rfl,r⟩
 | _,_,i+1,x,.cons _ t,e=>by
  obtain ⟨u,h1,h2⟩:=Yt.get (i:=i) (x:=x) t (by simpa using e);exact ⟨u,by simpa using h1,h2⟩
theorem Yt.append:∀ {xs ys:List V} {us ws:List Α},Yt xs us->Yt ys ws->Yt (xs++ys) (us++ws)
 | _,_,_,_,.nil,s=>s
 | _,_,_,_,.cons r t,s => .cons r (Yt.append t s)
theorem Yt.take:∀ {xs:List V} {us:List Α} (n:Nat),Yt xs us->Yt (xs.take n) (us.take n)
 | _,_,0,_ => .nil
 | _,_,_+1,.nil => .nil
 | _,_,n+1,.cons r t => .cons r (Yt.take n t)
theorem Yt.drop:∀ {xs:List V} {us:List Α} (n:Nat),Yt xs us->Yt (xs.drop n) (us.drop n)
 | _,_,0,r=>r
 | _,_,_+1,.nil => .nil
 | _,_,n+1,.cons _ t=>Yt.drop n t
def X9:Option V->Option Α->Prop
 | some v,some u=>YD v u
 | none,none=>True
 | _,_=>False
def KV {κ:Type}:List (κ×V)->List (κ×Α)->Prop:=Paired λ(p:κ×V) (q:κ×Α)=>p.1=q.1/\YD p.2 q.2
def kV:Key->V
 | .inl i => .int i
 | .inr x => .str x
inductive HO where
 /-- a list -/
 | lst (xs:List V)
 /-- a tuple (never changes) -/
 | tup (xs:List V)
 /-- a dict whose keys are ints and texts;one whose keys are tuples of ints and texts (the empty one is both) -/
 | dK (kvs:List (Key×V)) | dT (kvs:List (List Key×V))
 /-- a set of ints: its members,its size -/
 | set (S:Int->Bool) (n:Nat)
 /-- an instance of the class at C,its dict at dx,its attributes -/
 | ins (C dx:Addr) (fs:List (Str×V))
 /-- the dict of the instance at x -/
 | own (x:Addr)
 /-- the dict of an exception -/
 | xd (fs:List (Str×V))
 /-- a bound method,f of x -/
 | met (f x:Addr)
 /-- a range object lo,lo+1,.. below hi -/
 | rng (lo hi:Int)
 /-- a thing that is known to the object (the script;a dict while a loop walks it): read,never written while it is so -/
 | dO (o:Obj) (u:HO)
 /-- a code object's table -/
 | jm (ps:Array Α)
 /-- any other thing,by what is true of its one object (a def of one's own: M6 a S n:=HO.ext λh => ..) -/
 | ext (φ:Heap->Prop)
abbrev Hp:=Addr->Option HO
def upd (H:Hp) (a:Addr) (o:HO):Hp:=λb=>if b=a then some o else H b
theorem Yc {H:Hp} {a:Addr} {o:HO}:upd H a o a=some o:=by unfold upd;rw [if_pos rfl]
theorem Yh {H:Hp} {a b:Addr} {o:HO} (h:b≠a):upd H a o b=H b:=by unfold upd;rw [if_neg h]
theorem Xw {H:Hp} {a b:Addr} {o u:HO} (h:H a=some o) (h':H b=some u) (d:o≠u):a≠b:=by
 intro e;subst e;rw [h] at h';exact d (Γ h')
theorem Ym {H:Hp} {a b:Addr} {o:HO} (h:H a=some o) (h':H b=none):a≠b:=by
 intro e;subst e;rw [h] at h';cases h'
section
variable (P:ζ) (w:ν)
def YV (H:Hp) (h:Heap) (a:Addr):HO->Prop
 | .lst xs=>xs.length<=sizeLine/\∃ (its:List Α) (n:Nat),Yt xs its/\h.get? a=some { cls := .type "list",data := .seq its.toArray n }
 | .tup xs=>xs.length<=sizeLine/\∃ its:List Α,Yt xs its/\IsTup h a its.toArray
 | .dK kvs=>kvs.length<=sizeLine/\(a==eQ)=false/\∃ vs,KV kvs vs/\h.DictOf (YX P w) a vs
 | .dT kvs=>kvs.length<=sizeLine/\(a==eQ)=false/\∃ xs:List (List Key×Addr×Α),
   Paired (λ(p:List Key×V) (q:List Key×Addr×Α)=>p.1=q.1/\H q.2.1=some (.tup (p.1.map kV))/\YD p.2 q.2.2) kvs xs /\
   ∃ o es ep,h.get? a=some o/\o.ExactDict/\o.data = .dict es ep/\es.toList=xs.map (entryOfKey (tupleKind (YX P w)))/\(xs.map (·.1)).Nodup
 | .set S n=>h.SetOf (intKind P w) a S n
 | .ins C dx fs=>H dx=some (.own a)/\fs.length<=1000/\dx≠a/\h.get? a=some (ge C dx) /\
   ∃ mA,h.Ns1 dx mA/\(∀ f,X9 (fs.lookup f) (mA f))/\PySem.Within mA (fs.map (·.1))
 | .own _=>∃ o,h.get? a=some o
 | .xd fs=>∃ mA,h.Ns1 a mA/\∀ f,X9 (fs.lookup f) (mA f)
 | .rng lo hi=>∃ t u v,h.get? a=some { cls := .type "range",data := .fields #[.int lo t,.int hi u,.int 1 v] }
 | .dO o u=>h.get? a=some o/\YV H h a u
 | .jm ps=>h.get? a=some { cls := .none,data := .fields ps }
 | .met f x=>h.get? a=some (W.methodObj (.ref f) (.ref x))
 | .ext φ=>φ h/\(∃ o,h.get? a=some o)/\∀ h1 h2:Heap,φ h1->(∀ o,h1.get? a=some o->h2.get? a=some o)->φ h2
def bD (H:Hp) (h:Heap):Prop:=∀ a o,H a=some o->YV P w H h a o
end
section
variable {P:ζ} {w:ν} {H H':Hp} {h h':Heap} {a:Addr} {o:HO}
theorem YV.lt (x:YV P w H h a o):a<h.objs.size:=by
 cases o with
 | lst xs=>obtain ⟨_,_,_,_,e⟩:=x;exact Ψ e
 | tup xs=>obtain ⟨_,_,_,p⟩:=x;exact p.lt
 | dK kvs=>obtain ⟨_,_,_,_,o,_,_,e,_⟩:=x;exact Ψ e
 | dT kvs=>obtain ⟨_,_,_,_,o,_,_,e,_⟩:=x;exact Ψ e
 | set S n=>obtain ⟨o,_,_,_,e,_⟩:=x;exact Ψ e
 | ins C dx fs=>obtain ⟨_,_,_,e,_⟩:=x;exact Ψ e
 | own y=>obtain ⟨_,e⟩:=x;exact Ψ e
 | xd fs=>obtain ⟨_,⟨_,_,_,e,_⟩,_⟩:=x;exact Ψ e
 | rng lo hi=>obtain ⟨_,_,_,e⟩:=x;exact Ψ e
 | dO ob u=>obtain ⟨e,_⟩:=x;exact Ψ e
 | jm ps=>exact Ψ (show h.get? a=some _ from x)
 | met f y=>exact Ψ (show h.get? a=some _ from x)
 | ext φ=>obtain ⟨_,⟨_,e⟩,_⟩:=x;exact Ψ e
theorem Paired.vd {α β:Type} {F G:α->β->Prop}:∀ {l₁:List α} {l₂:List β},Paired F l₁ l₂->(∀ a b,F a b->G a b)->Paired G l₁ l₂
 | _,_,.nil,_ => .nil
 | _,_,.cons r t,f => .cons (f _ _ r) (Paired.vd t f)
theorem YV.stay (x:YV P w H h a o) (k:∀ b u,(b=a\/H b=some (.own a))->h.get? b=some u->h'.get? b=some u)
  (ho:∀ b,H b=some (.own a)->H' b=some (.own a)) (ht:∀ b xs,H b=some (.tup xs)->H' b=some (.tup xs)):YV P w H' h' a o:=by
 induction o with
 | lst xs=>obtain ⟨z,its,n,r,e⟩:=x;exact ⟨z,its,n,r,k _ _ (.inl rfl) e⟩
 | tup xs=>obtain ⟨z,its,r,ob,e,c⟩:=x;exact ⟨z,its,r,ob,k _ _ (.inl rfl) e,c⟩
 | dK kvs=>obtain ⟨z,y,vs,r,ob,es,ep,e,c⟩:=x;exact ⟨z,y,vs,r,ob,es,ep,k _ _ (.inl rfl) e,c⟩
 | dT kvs =>
  obtain ⟨z,y,xs,r,ob,es,ep,e,c⟩:=x;exact ⟨z,y,xs,Paired.vd r λp q z=>⟨z.1,ht _ _ z.2.1,z.2.2⟩,ob,es,ep,k _ _ (.inl rfl) e,c⟩
 | set S n=>obtain ⟨ob,es,ep,t,e,c⟩:=x;exact ⟨ob,es,ep,t,k _ _ (.inl rfl) e,c⟩
 | ins C dx fs =>
  obtain ⟨d,z,ne,e,mA,⟨od,es,ep,e2,c⟩,r⟩:=x;exact ⟨ho _ d,z,ne,k _ _ (.inl rfl) e,mA,⟨od,es,ep,k _ _ (.inr d) e2,c⟩,r⟩
 | own y=>obtain ⟨ob,e⟩:=x;exact ⟨ob,k _ _ (.inl rfl) e⟩
 | xd fs=>obtain ⟨mA,⟨od,es,ep,e,c⟩,r⟩:=x;exact ⟨mA,⟨od,es,ep,k _ _ (.inl rfl) e,c⟩,r⟩
 | rng lo hi=>obtain ⟨t,u,v,e⟩:=x;exact ⟨t,u,v,k _ _ (.inl rfl) e⟩
 | dO ob u ih=>obtain ⟨e,q⟩:=x;exact ⟨k _ _ (.inl rfl) e,ih q⟩
 | jm ps =>
  have e:h.get? a=some { cls := .none,data := .fields ps }:=x
  show h'.get? a=some { cls := .none,data := .fields ps }
  exact k a _ (.inl rfl) e
 | met f y =>
  have e:h.get? a=some (W.methodObj (.ref f) (.ref y)):=x
  show h'.get? a=some (W.methodObj (.ref f) (.ref y))
  exact k a _ (.inl rfl) e
 | ext φ=>obtain ⟨p,⟨o,e⟩,st⟩:=x;exact ⟨st _ _ p λo q=>k _ _ (.inl rfl) q,⟨o,k _ _ (.inl rfl) e⟩,st⟩
theorem bD.lt (x:bD P w H h) (e:H a=some o):a<h.objs.size:=(x a o e).lt
theorem bD.fresh (x:bD P w H h) (e:h.objs.size<=a):H a=none:=by
 cases q:H a with
 | none=>rfl
 | some u=>exact absurd (τ (x.lt q) e) (ce _)
theorem bD.kept (x:bD P w H h) (k:∀ b u,h.get? b=some u->h'.get? b=some u):bD P w H h':=λa o e =>
 (x a o e).stay (λb u _ q=>k b u q) (λ_ q=>q) λ_ _ q=>q
theorem bD.laid (x:bD P w H h) (k:∀ b u,h.get? b=some u->h'.get? b=some u) (hp:h.objs.size<=a) (new:YV P w (upd H a o) h' a o):bD P w (upd H a o) h':=λb u e=>by
 have hn:=x.fresh hp;by_cases hb:b=a
 ·subst hb;rw [Yc] at e;cases e;exact new
 ·rw [Yh hb] at e
  exact (x b u e).stay (λc v _ q=>k c v q) (λc q=>by rw [Yh (Ym q hn)];exact q) λc xs q=>by rw [Yh (Ym q hn)];exact q
end
def Rd (H:Hp) (a:Addr) (u:HO):Prop:=H a=some u\/∃ o,H a=some (.dO o u)
theorem Rd.ok {P:ζ} {w:ν} {H:Hp} {h:Heap} {a:Addr} {u:HO} (r:Rd H a u) (x:bD P w H h):YV P w H h a u:=by
 rcases r with r | ⟨o,r⟩
 ·exact x a u r
 ·obtain ⟨_,q⟩:=x a _ r
  exact q
def oG:Option HO->Prop
 | some (.lst _)=>True
 | some (.dK _)=>True
 | some (.dT _)=>True
 | some (.set _ _)=>True
 | some (.ins _ _ _)=>True
 | some (.ext _)=>True
 | _=>False
section
variable {P:ζ} {w:ν} {H:Hp} {h h':Heap} {x e:Addr} {o':HO}
theorem bD.write (ok:bD P w H h) (mu:oG (H x)) (he:e=x\/H e=some (.own x)) (k:∀ b u,b≠e->h.get? b=some u->h'.get? b=some u) (heo:∃ u,h'.get? e=some u)
  (new:YV P w (upd H x o') h' x o'):bD P w (upd H x o') h':=λb u q=>by
 have vf:∀ c y,H c=some (.own y)->c≠x:=λc y r z=>by subst z;rw [r] at mu;exact mu
 have M7:∀ c xs,H c=some (.tup xs)->c≠x:=λc xs r z=>by subst z;rw [r] at mu;exact mu
 by_cases hb:b=x
 ·subst hb;rw [Yc] at q;cases q;exact new
 ·rw [Yh hb] at q
  by_cases hbe:b=e
  ·have q':H b=some (.own x):=by
    rcases he with z | z
    ·exact absurd (hbe.trans z) hb
    ·rw [hbe];exact z
   rw [q] at q';cases q'
   obtain ⟨v,hv⟩:=heo;exact ⟨v,by rw [hbe];exact hv⟩
  ·refine (ok b u q).stay (λc v hc r=>k c v ?_ r) (λc r=>by rw [Yh (vf c b r)];exact r) λc xs r=>by rw [Yh (M7 c xs r)];exact r
   rcases hc with rfl | hc
   ·exact hbe
   ·rintro rfl
    rcases he with z | z
    ·exact vf c b hc z
    ·rw [hc] at z;cases z;exact hb rfl
end
structure Un (fs ex:List Addr) (H H':Hp) (h h':Heap):Prop where
 keep:∀ b o,h.get? b=some o->H b=none->b∉fs->b∉ex->h'.get? b=some o
 slot:∀ b o,h.get? b=some o->H b=none->b∈fs->b∉ex->∃ sl,h'.get? b=some { o with slots:=sl }
 free:∀ b o,h.get? b=some o->H b=none->b∉ex->H' b=none
 there:∀ b o,h.get? b=some o->b∉ex->∃ o',h'.get? b=some o'
 tups:∀ b xs,H b=some (.tup xs)->H' b=some (.tup xs)
 dR:∀ b o u,H b=some (.dO o u)->H' b=some (.dO o u)
 eU:∀ b ps,H b=some (.jm ps)->∃ more,H' b=some (.jm (ps++more))
section
variable {fs fs' ex ex':List Addr} {H H1 H2:Hp} {h h1 h2 h':Heap} {a x e:Addr} {o:HO}
theorem Un.any (u:Un fs ex H H1 h h1) {b:Addr} {ob:Obj} (q:h.get? b=some ob) (n:H b=none) (hx:b∉ex):∃ sl,h1.get? b=some { ob with slots:=sl }:=by
 by_cases hb:b∈fs
 ·exact u.slot b ob q n hb hx
 ·exact ⟨ob.slots,u.keep b ob q n hb hx⟩
theorem Un.kept (k:∀ b u,h.get? b=some u->h'.get? b=some u):Un fs ex H H h h' :=
 ⟨λb ob q _ _ _=>k b ob q,λb ob q _ _ _=>⟨ob.slots,k b ob q⟩,λ_ _ _ n _=>n,λb ob q _=>⟨ob,k b ob q⟩,λ_ _ q=>q,λ_ _ _ q=>q,λ_ ps q=>⟨#[],by rw [q];simp⟩⟩
theorem Un.refl:Un fs ex H H h h:=Un.kept λ_ _ q=>q
theorem Un.laid (k:∀ b u,h.get? b=some u->h'.get? b=some u) (hp:h.objs.size<=a) (hn:H a=none):Un fs ex H (upd H a o) h h' where
 keep:=λb u q _ _ _=>k b u q
 slot:=λb u q _ _ _=>⟨u.slots,k b u q⟩
 free:=λb u q n _=>by rw [Yh (ς (τ (Ψ q) hp))];exact n
 there:=λb u q _=>⟨u,k b u q⟩
 tups:=λb xs q=>by rw [Yh (Ym q hn)];exact q
 dR:=λb u xs q=>by rw [Yh (Ym q hn)];exact q
 eU:=λb ps q=>⟨#[],by rw [Yh (Ym q hn),q];simp⟩
theorem Un.write (mu:oG (H x)) (he:e=x\/H e=some (.own x)) (k:∀ b u,b≠e->h.get? b=some u->h'.get? b=some u) (heo:∃ u,h'.get? e=some u):Un fs ex H (upd H x o) h h':=by
 have hx:∀ b,H b=none->b≠x:=λb n z=>by subst z;rw [n] at mu;exact mu
 have hb:∀ b,H b=none->b≠e:=λb n z=>by
  subst z;rcases he with r | r
  ·exact hx b n r
  ·rw [n] at r;cases r
 have hm:∀ b u,H b=some u->¬ oG (some u)->b≠x:=λb u q nm z=>by subst z;rw [q] at mu;exact nm mu
 refine ⟨λb u q n _ _=>k b u (hb b n) q,λb u q n _ _=>⟨u.slots,k b u (hb b n) q⟩,λb u q n _=>by rw [Yh (hx b n)];exact n,λb u q _=>?_,
  λb xs q=>by rw [Yh (hm b _ q λz=>z)];exact q,λb u xs q=>by rw [Yh (hm b _ q λz=>z)];exact q,λb ps q=>⟨#[],by rw [Yh (hm b _ q λz=>z),q];simp⟩⟩
 by_cases hbe:b=e
 ·subst hbe;exact heo
 ·exact ⟨u,k b u hbe q⟩
end
def sI (h:Heap) (H:Hp):List Addr:=(η h.objs.size).filter λa=>(H a).isSome
def Vr (h:Heap) (H:Hp):Heap:=W.hideAll h (sI h H)
theorem Ov (h:Heap) (H:Hp):(Vr h H).objs.size=h.objs.size:=W.hideAll_size _ _
theorem Ow {h:Heap} {H:Hp} {b:Addr} {o:Obj} (e:h.get? b=some o) (n:H b=none):(Vr h H).get? b=some o :=
 W.hideAll_get _ e λhm=>by
  have q:(H b).isSome=true:=(List.mem_filter.mp hm).2;rw [n] at q;simp at q
theorem Ox {h:Heap} {H:Hp} {b:Addr} {o:Obj} (e:(Vr h H).get? b=some o):h.get? b=some o/\H b=none:=by
 have e':h.get? b=some o:=W.of_hideAll (sI h H) e;refine ⟨e',?_⟩
 cases q:H b with
 | none=>rfl
 | some x =>
  have hm:b∈sI h H:=List.mem_filter.mpr ⟨a7.mpr (Ψ e'),by simp [q]⟩;have z:(Vr h H).get? b=none:=W.hideAll_none (sI h H) hm;rw [z] at e;cases e
def Oz (g h:Heap) (L:Addr):List (Addr×Obj):=(η h.objs.size).filterMap λa=>if a=L\/(g.get? a).isSome=true then none else (h.get? a).map λo=>(a,o)
def YI (g h:Heap) (L d:Addr):List (Addr×Obj):=(Oz g h L).filter λp=>decide (p.1≠d)
structure Mod (K:Ι) (mg:Str->Option Α) (base:Heap):Prop where
 jG:K.In base
 glob:base.Ns aE mg
 blt:∃ mb,base.Ns builtinsNs mb/\∀ x:Str,x≠"__name__"->mb x=dn x
 nolimit:base.NoLimit
structure Cx where
 prog:ζ
 w:ν
 K:Ι
 mg:Str->Option Α
 base:Heap
 A:ag
 N:List Str
 s₀:Δ
 H₀:Hp
 env:Env
 outer:List Env
 stack:List Env
 ex:List Addr
 fn:Str->Bool
 calm:Bool
 pn:List (Addr×Obj)
 xe:Α->Δ->Prop
def frs (l:List Env):List Addr:=l.filterMap (·.frame)
abbrev Cx.fs (X:Cx):List Addr:=frs X.outer
def sJ (sc:db) (x:Str):Prop:=sc.names.lookup x=some .local\/sc.names.lookup x=some .cell\/sc.names.lookup x=some .free
def Loc (sc:db) (x:Str):Prop:=sc.names.lookup x=some .local\/sc.names.lookup x=some .cell
def Look (env:Env) (h:Heap) (m:Str->Option Α) (x:Str) (u:Α):Prop :=
 (env.kindOf x=some .local/\m x=some u)\/((env.kindOf x=some .cell\/env.kindOf x=some .free)/\∃ c,env.cells.lookup x=some c/\h.IsCell c (some u))
structure Cx.Ok (X:Cx):Prop where
 mod:Mod X.K X.mg X.base
 kind:X.env.scope.kind = .function
 glob:X.env.globals=aE
 blt:X.env.builtins=builtinsNs
 above:X.s₀.heap.objs.size<=X.env.locals
 inj:∀ x y c,X.env.cells.lookup x=some c->X.env.cells.lookup y=some c->x=y
 has:∀ x,(X.env.kindOf x=some .cell\/X.env.kindOf x=some .free)->∃ c,X.env.cells.lookup x=some c
 cab:∀ x c,X.fn x=true->X.env.cells.lookup x=some c->X.s₀.heap.objs.size<=c
 hd:X.calm=true->X.A.handled=none
 frames:X.A.frames=some X.stack
 stk:X.stack=X.outer\/(X.stack=X.env::X.outer/\X.env.frame=some X.env.locals)
 Di:∀ b∈X.ex,b≠X.env.locals/\∀ x c,X.env.cells.lookup x=some c->c≠b
 bs:∀ b o,X.base.get? b=some o->X.s₀.heap.get? b=some o/\X.H₀ b=none
 fX:X.base.objs.size<=X.s₀.heap.objs.size
 jh:∀ b o,X.base.get? b=some o->b∉X.ex
 mY:∀ b∈X.ex,b∉X.fs
 dF:X.s₀.heap.FunFrames X.base X.outer
 jH:∀ b∈X.fs,X.H₀ b=none
structure Inv (X:Cx) (pins:List (Addr×Obj)) (σ:List (Option V)) (H:Hp) (s:Δ):Prop where
 ok:X.Ok
 os:s.os=X.s₀.os
 bare:hV s.gens
 base:Un X.fs X.ex X.H₀ H X.s₀.heap s.heap
 loc:∃ m,s.heap.Ns X.env.locals m/\∀ (i:Nat) (x:Str) (v:V),X.N[i]?=some x->σ[i]?=some (some v)->sJ X.env.scope x->∃ u,YD v u/\Look X.env s.heap m x u
 cell:∀ x c,X.env.cells.lookup x=some c->∃ v,s.heap.IsCell c v
 free:H X.env.locals=none
 cL:∀ x c,X.env.cells.lookup x=some c->H c=none
 pin:∀ p∈X.pn++pins,s.heap.get? p.1=some p.2/\H p.1=none/\p.1≠X.env.locals/\p.1∉X.fs/\∀ v,p.2.data ≠ .cell v
 hok:bD X.prog X.w H s.heap
 len:σ.length=X.N.length
section
variable {X:Cx} {pins:List (Addr×Obj)} {σ:List (Option V)} {H H':Hp} {s:Δ} {h':Heap}
theorem Cx.Ok.M8 (ok:X.Ok) {b:Addr} {o:Obj} (e:X.base.get? b=some o):b∉X.fs:=λhb=>by
 have:=(ok.dF.mem hb).1;rw [e] at this;cases this
theorem Inv.bs (I:Inv X pins σ H s):∀ b o,X.base.get? b=some o->s.heap.get? b=some o/\H b=none:=λb o e =>
 ⟨I.base.keep b o (I.ok.bs b o e).1 (I.ok.bs b o e).2 (I.ok.M8 e) (I.ok.jh b o e),I.base.free b o (I.ok.bs b o e).1 (I.ok.bs b o e).2 (I.ok.jh b o e)⟩
theorem Inv.bk (I:Inv X pins σ H s):∀ b o,X.base.get? b=some o->s.heap.get? b=some o:=λb o e=>(I.bs b o e).1
theorem Inv.mod (I:Inv X pins σ H s):Mod X.K X.mg X.base:=I.ok.mod
theorem Inv.bF (I:Inv X pins σ H s):X.K.In s.heap:=I.ok.mod.jG.keeps I.bk
theorem Inv.lt (I:Inv X pins σ H s):X.env.locals<s.heap.objs.size:=let ⟨_,hn,_⟩:=I.loc;hn.lt
theorem Inv.sz (I:Inv X pins σ H s):X.s₀.heap.objs.size<=s.heap.objs.size:=Ο I.ok.above (ic I.lt)
theorem Inv.M9 (I:Inv X pins σ H s) {a:Addr} (h:s.heap.objs.size<=a):a∉X.fs:=λhb=>by
 obtain ⟨_,o,ho,_⟩:=I.ok.dF.mem hb;exact absurd (τ (Ψ ho) (Ο I.sz h)) (ce _)
theorem Inv.jJ (I:Inv X pins σ H s):∀ x c,X.env.cells.lookup x=some c->c≠X.env.locals:=λx c e z=>by
 obtain ⟨v,o,ho,hd⟩:=I.cell x c e;obtain ⟨m,⟨o',es,ep,ho',hd',_⟩,_⟩:=I.loc;rw [z,ho'] at ho;cases ho;rw [hd'] at hd;cases hd
theorem Inv.dF (I:Inv X pins σ H s):s.heap.FunFrames X.base X.outer:=by
 have all:∀ (l:List Env),(∀ b∈frs l,b∈X.fs)->X.s₀.heap.FunFrames X.base l->s.heap.FunFrames X.base l:=by
  intro l
  induction l with
  | nil=>intro _ _;trivial
  | cons env r ih =>
   intro hs hl;obtain ⟨hk,⟨L,o,hf,hn,ho,hd⟩,hr⟩:=hl;have hL:L∈X.fs:=hs L (by unfold frs;rw [f7,hf];exact gm);obtain ⟨sl,e⟩:=I.base.slot L o ho (I.ok.jH L hL) hL λz=>I.ok.mY L z hL
   exact ⟨hk,⟨L,_,hf,hn,e,hd⟩,ih (λb hb=>hs b (by unfold frs;rw [f7,hf];exact bp _ hb)) hr⟩
 exact all X.outer (λ_ hb=>hb) I.ok.dF
theorem Inv.stack (I:Inv X pins σ H s):s.heap.FunFrames X.base X.stack:=by
 rcases I.ok.stk with e | ⟨e,hf⟩
 ·rw [e];exact I.dF
 ·rw [e]
  obtain ⟨m,hn,_⟩:=I.loc;refine .cons (by rw [I.ok.kind];decide) hf hn ?_ I.dF;exact Heap.get?_none_of_le (Ο I.ok.fX I.ok.above)
theorem Inv.cZ (I:Inv X pins σ H s):∀ b∈frs X.stack,b∈X.env.locals::X.fs:=λb hb=>by
 rcases I.ok.stk with e | ⟨e,hf⟩
 ·rw [e] at hb;exact bp _ hb
 ·rw [e] at hb
  unfold frs at hb;rw [f7,hf] at hb
  exact hb
theorem Inv.ji (I:Inv X pins σ H s):∀ b∈frs X.stack,H b=none:=λb hb=>by
 rcases Φ.mp (I.cZ b hb) with e | hb
 ·rw [e];exact I.free
 ·obtain ⟨_,o,ho,_⟩:=I.ok.dF.mem hb
  exact I.base.free b o ho (I.ok.jH b hb) λz=>I.ok.mY b z hb
theorem Inv.step {g':Array GenState} {t':Nat} {d':Drawn} {ch:List Addr} (I:Inv X pins σ H s)
  (hch:∀ b∈ch,(b∈X.ex\/X.s₀.heap.objs.size<=b)/\b≠X.env.locals/\(∀ x c,X.env.cells.lookup x=some c->c≠b)/\∀ p∈X.pn++pins,p.1≠b)
  (keep:∀ b o,b≠X.env.locals->b∉X.fs->b∉ch->s.heap.get? b=some o->H b=none->h'.get? b=some o)
  (slot:∀ b o,b≠X.env.locals->b∈X.fs->b∉ch->s.heap.get? b=some o->H b=none->∃ sl,h'.get? b=some { o with slots:=sl }) (free:∀ b o,b∉ch->s.heap.get? b=some o->H b=none->H' b=none)
  (there:∀ b o,b∉ch->s.heap.get? b=some o->∃ o',h'.get? b=some o')
  (tups:∀ b xs,H b=some (.tup xs)->H' b=some (.tup xs)) (dR:∀ b o u,H b=some (.dO o u)->H' b=some (.dO o u)) (eU:∀ b ps,H b=some (.jm ps)->∃ more,H' b=some (.jm (ps++more)))
  (ns:∀ m,s.heap.Ns X.env.locals m->h'.Ns X.env.locals m) (hok:bD X.prog X.w H' h') (hg:hV g') :
  Inv X pins σ H' { s with heap:=h',gens:=g',drawn:=d',toks:=t' }:=by
 have Dj:∀ b o,X.s₀.heap.get? b=some o->b≠X.env.locals:=λb o e=>ς (τ (Ψ e) I.ok.above)
 have sO:∀ b o,X.s₀.heap.get? b=some o->b∉X.ex->b∉ch:=λb o e hx hb=>by
  rcases (hch b hb).1 with z | z
  ·exact hx z
  ·exact absurd (τ (Ψ e) z) (ce _)
 have cellK:∀ x c,X.env.cells.lookup x=some c->∀ v,s.heap.IsCell c v->h'.IsCell c v:=λx c e v ⟨o,ho,hd⟩=>by
  have oH:c∉ch:=λz=>(hch c z).2.2.1 x c e rfl
  by_cases hc:c∈X.fs
  ·obtain ⟨sl,q⟩:=slot c o (I.jJ x c e) hc oH ho (I.cL x c e)
   exact ⟨_,q,hd⟩
  ·exact ⟨o,keep c o (I.jJ x c e) hc oH ho (I.cL x c e),hd⟩
 refine ⟨I.ok,I.os,hg,⟨λb o e n hb hx=>?_,λb o e n hb hx=>?_,λb o e n hx=>?_,λb o e hx=>?_,λb xs e=>tups b xs (I.base.tups b xs e),λb o xs e=>dR b o xs (I.base.dR b o xs e),λb ps e=>?_⟩,?_,λx c e=>?_,?_,λx c e=>?_,λp hp=>?_,hok,I.len⟩
 ·exact keep b o (Dj b o e) hb (sO b o e hx) (I.base.keep b o e n hb hx) (I.base.free b o e n hx)
 ·obtain ⟨sl,e1⟩:=I.base.slot b o e n hb hx
  obtain ⟨sl',e2⟩:=slot b _ (Dj b o e) hb (sO b o e hx) e1 (I.base.free b o e n hx);exact ⟨sl',e2⟩
 ·obtain ⟨o',e1⟩:=I.base.there b o e hx
  exact free b o' (sO b o e hx) e1 (I.base.free b o e n hx)
 ·obtain ⟨o',e1⟩:=I.base.there b o e hx
  exact there b o' (sO b o e hx) e1
 ·obtain ⟨m1,e1⟩:=I.base.eU b ps e
  obtain ⟨m2,e2⟩:=eU b _ e1;exact ⟨m1++m2,by rw [e2,Array.append_assoc]⟩
 ·obtain ⟨m,hn,hl⟩:=I.loc
  refine ⟨m,ns m hn,λi x v e1 e2 e3=>?_⟩;obtain ⟨u,r,l⟩:=hl i x v e1 e2 e3;refine ⟨u,r,?_⟩;rcases l with l | ⟨k,c,e,z⟩
  ·exact .inl l
  ·exact .inr ⟨k,c,e,cellK x c e _ z⟩
 ·obtain ⟨v,z⟩:=I.cell x c e
  exact ⟨v,cellK x c e v z⟩
 ·obtain ⟨m,⟨o,_,_,ho,_⟩,_⟩:=I.loc
  exact free _ o (λz=>(hch _ z).2.1 rfl) ho I.free
 ·obtain ⟨v,o,ho,hd⟩:=I.cell x c e
  exact free c o (λz=>(hch c z).2.2.1 x c e rfl) ho (I.cL x c e)
 ·obtain ⟨e,n,ne,nf,d⟩:=I.pin p hp
  have oH:p.1∉ch:=λz=>(hch p.1 z).2.2.2 p hp rfl
  exact ⟨keep p.1 p.2 ne nf oH e n,free p.1 p.2 oH e n,ne,nf,d⟩
theorem Inv.un {t':Nat} (I:Inv X pins σ H s) (u:Un X.fs [] H H' s.heap h') (hok:bD X.prog X.w H' h'):Inv X pins σ H' { s with heap:=h',toks:=t' }:=by
 obtain ⟨m,⟨o,es,ep,ho,r⟩,_⟩:=id I.loc;obtain ⟨sl,hL⟩:=u.any ho I.free (by simp);exact I.step (g':=s.gens) (d':=s.drawn) (ch:=[]) (λ_ z=>nomatch z) (λb o _ hb _ e n=>u.keep b o e n hb (by simp)) (λb o _ hb _ e n=>u.slot b o e n hb (by simp)) (λb o _ e n=>u.free b o e n (by simp)) (λb o _ e=>u.there b o e (by simp)) u.tups u.dR u.eU (λm' hm=>by
  obtain ⟨o',es',ep',ho',r'⟩:=hm;rw [ho] at ho';cases ho'
  exact ⟨_,es',ep',hL,r'⟩) hok I.bare
theorem Inv.call {g':Array GenState} {t':Nat} {d':Drawn} {ch:List Addr} (I:Inv X pins σ H s) (u:Un (frs X.stack) ch H H' s.heap h') (hok:bD X.prog X.w H' h') (hg:hV g')
  (hch:∀ b∈ch,(b∈X.ex\/X.s₀.heap.objs.size<=b)/\b≠X.env.locals/\(∀ x c,X.env.cells.lookup x=some c->c≠b)/\∀ p∈X.pn++pins,p.1≠b) :
  Inv X pins σ H' { s with heap:=h',gens:=g',drawn:=d',toks:=t' }:=by
 obtain ⟨m,⟨o,es,ep,ho,r⟩,_⟩:=id I.loc;obtain ⟨sl,hL⟩:=u.any ho I.free λz=>(hch _ z).2.1 rfl
 exact I.step (ch:=ch) hch (λb o hL hb hc e n=>u.keep b o e n (λz=>(Φ.mp (I.cZ b z)).elim hL hb) hc) (λb o _ _ hc e n=>u.any e n hc) (λb o hc e n=>u.free b o e n hc) (λb o hc e=>u.there b o e hc) u.tups u.dR u.eU (λm' hm=>by
  obtain ⟨o',es',ep',ho',r'⟩:=hm;rw [ho] at ho';cases ho'
  exact ⟨_,es',ep',hL,r'⟩) hok hg
theorem Inv.turned {t':Nat} {it:Addr} (I:Inv X pins σ H s) (k:∀ b o,b≠it->s.heap.get? b=some o->h'.get? b=some o) (hn:H it=none) (hL:it≠X.env.locals)
  (h1:it∈X.ex\/X.s₀.heap.objs.size<=it) (h2:∀ x c,X.env.cells.lookup x=some c->c≠it) (h3:∀ p∈X.pn++pins,p.1≠it):Inv X pins σ H { s with heap:=h',toks:=t' }:=by
 have jo:∀ b u,H b=some u->b≠it:=λb u e z=>by rw [z,hn] at e;cases e
 refine I.step (g':=s.gens) (d':=s.drawn) (ch:=[it]) (λb hb=>?_) (λb o _ _ hc e _=>k b o (λz=>hc (by simp [z])) e) (λb o _ _ hc e _=>⟨o.slots,k b o (λz=>hc (by simp [z])) e⟩) (λ_ _ _ _ n=>n)
  (λb o hc e=>⟨o,k b o (λz=>hc (by simp [z])) e⟩) (λ_ _ e=>e) (λ_ _ _ e=>e) (λb ps e=>⟨#[],by rw [e];simp⟩) (λm hm=>?_) (λb u e=>?_) I.bare
 ·have e:b=it:=by simpa using hb
  subst e;exact ⟨h1,hL,h2,h3⟩
 ·obtain ⟨o,es,ep,ho,r⟩:=hm
  exact ⟨o,es,ep,k _ o (am hL) ho,r⟩
 ·refine (I.hok b u e).stay (λc v hc q=>k c v ?_ q) (λ_ q=>q) λ_ _ q=>q
  rcases hc with z | z
  ·rw [z];exact jo b u e
  ·exact jo c _ z
theorem Inv.tok (I:Inv X pins σ H s) (t:Nat):Inv X pins σ H { s with toks:=t }:=I.un (h':=s.heap) (t':=t) Un.refl I.hok
theorem Inv.kept {t':Nat} (I:Inv X pins σ H s) (k:∀ b u,s.heap.get? b=some u->h'.get? b=some u):Inv X pins σ H { s with heap:=h',toks:=t' }:=I.un (Un.kept k) (I.hok.kept k)
theorem Inv.laid {a:Addr} {o:HO} {t':Nat} (I:Inv X pins σ H s) (k:∀ b u,s.heap.get? b=some u->h'.get? b=some u) (hp:s.heap.objs.size<=a) (new:YV X.prog X.w (upd H a o) h' a o) :
  Inv X pins σ (upd H a o) { s with heap:=h',toks:=t' }:=I.un (Un.laid k hp (I.hok.fresh hp)) (I.hok.laid k hp new)
theorem Inv.write {x e:Addr} {o:HO} {t':Nat} (I:Inv X pins σ H s) (mu:oG (H x)) (he:e=x\/H e=some (.own x)) (k:∀ b u,b≠e->s.heap.get? b=some u->h'.get? b=some u) (heo:∃ u,h'.get? e=some u)
  (new:YV X.prog X.w (upd H x o) h' x o):Inv X pins σ (upd H x o) { s with heap:=h',toks:=t' }:=I.un (Un.write mu he k heo) (I.hok.write mu he k heo new)
theorem Inv.lE {cY:List (Addr×Obj)} (I:Inv X pins σ H s) (h:∀ p∈cY,s.heap.get? p.1=some p.2/\H p.1=none/\p.1≠X.env.locals/\p.1∉X.fs/\∀ v,p.2.data ≠ .cell v):Inv X cY σ H s :=
 ⟨I.ok,I.os,I.bare,I.base,I.loc,I.cell,I.free,I.cL,λp hp=>(bg.mp hp).elim (λz=>I.pin p (fF _ z)) (h p),I.hok,I.len⟩
theorem Dk {N:List Str} (hN:N.Nodup) {i j:Nat} {x:Str} (a:N[i]?=some x) (b:N[j]?=some x):i=j:=by
 obtain ⟨h1,e1⟩:=Η.mp a;obtain ⟨h2,e2⟩:=Η.mp b;exact (List.getElem_inj hN).mp (e1.trans e2.symm)
theorem OD {M:Model} {A:ag} {E:Α->Δ->Prop} {i:Nat} {x:Str} {v:V} {u:Α} {Q:Unit->Δ->Prop} (I:Inv X pins σ H s) (hN:X.N.Nodup) (hi:X.N[i]?=some x) (hx:Loc X.env.scope x) (r:YD v u)
  (h:∀ s',Inv X pins (σ.set i (some v)) H s'->(∃ a,br a s.heap s'.heap/\(a=X.env.locals\/X.env.cells.lookup x=some a))->Q () s') (hf:X.fn x=true\/X.env.scope.names.lookup x=some .local:=by first | exact .inl rfl | exact .inr rfl | assumption):Χ M A (storeName X.env x u) Q E s:=by
 obtain ⟨m,hn,hl⟩:=id I.loc;have hcls:(X.env.scope.kind == .class||(X.env.scope.kind == .module&&X.env.locals != X.env.globals))=false:=by rw [I.ok.kind];rfl
 have vg:i<σ.length:=by rw [I.len];exact (Η.mp hi).1
 have jJ:=I.jJ;have tracked:∀ {a:Addr} {h':Heap},(∃ o,s.heap.get? a=some o/\H a=none)->br a s.heap h'->bD X.prog X.w H h':=λ{a h'} ha hs b ob e=>by
  obtain ⟨_,_,hfree⟩:=ha;refine (I.hok b ob e).stay (λc w' hc q=>(hs.2 c ?_).trans q) (λ_ q=>q) λ_ _ q=>q
  rintro rfl;rcases hc with rfl | hc
  ·rw [hfree] at e;cases e
  ·rw [hfree] at hc;cases hc
 rcases hx with hk | hk
 ·refine wpAny_storeName_local hk hn (λh' hn' hs=>?_) hcls
  obtain ⟨oL,_,_,hoL,_⟩:=id hn;refine h _ ⟨I.ok,I.os,I.bare,⟨λb o e n hb hx=>?_,λb o e n hb hx=>?_,I.base.free,λb o e hx=>?_,I.base.tups,I.base.dR,I.base.eU⟩,⟨_,hn',λj y v' e1 e2 e3=>?_⟩,λy c e=>?_,I.free,I.cL,λp hp=>?_,tracked ⟨oL,hoL,I.free⟩ hs,by simpa using I.len⟩ ⟨_,hs,.inl rfl⟩
  ·exact (hs.2 b (ς (τ (Ψ e) I.ok.above))).trans (I.base.keep b o e n hb hx)
  ·obtain ⟨sl,e1⟩:=I.base.slot b o e n hb hx
   exact ⟨sl,(hs.2 b (ς (τ (Ψ e) I.ok.above))).trans e1⟩
  ·obtain ⟨o',e1⟩:=I.base.there b o e hx
   exact ⟨o',(hs.2 b (ς (τ (Ψ e) I.ok.above))).trans e1⟩
  ·by_cases hj:j=i
   ·subst hj
    rw [hi] at e1;cases e1
    rw [List.getElem?_set_self vg] at e2
    cases e2
    exact ⟨u,r,.inl ⟨hk,by simp⟩⟩
   ·rw [List.getElem?_set_ne (am hj)] at e2
    obtain ⟨u',r',q⟩:=hl j y v' e1 e2 e3;refine ⟨u',r',?_⟩;rcases q with ⟨k,e⟩ | ⟨k,c,e,z⟩
    ·refine .inl ⟨k,?_⟩
     have:y≠x:=λe=>hj (Dk hN e1 (e▸hi))
     simp [this,e]
    ·exact .inr ⟨k,c,e,z.sameBut hs (jJ y c e)⟩
  ·obtain ⟨w',z⟩:=I.cell y c e
   exact ⟨w',z.sameBut hs (jJ y c e)⟩
  ·obtain ⟨e,n,ne,nf,d⟩:=I.pin p hp
   exact ⟨(hs.2 p.1 ne).trans e,n,ne,nf,d⟩
 ·have hfn:X.fn x=true:=by
   rcases hf with z | z
   ·exact z
   ·rw [z] at hk;cases hk
  obtain ⟨c,hc⟩:=I.ok.has x (.inl hk);obtain ⟨w',z⟩:=I.cell x c hc;refine wpAny_storeName_cell I.ok.kind hk hc z (λh' hc' hs=>?_);obtain ⟨oc,hoc,Nb⟩:=id z;refine h { s with heap:=h' } ⟨I.ok,I.os,I.bare,⟨λb o e n hb hx=>?_,λb o e n hb hx=>?_,I.base.free,λb o e hx=>?_,I.base.tups,I.base.dR,I.base.eU⟩,⟨m,hn.sameBut hs (am (jJ x c hc)),λj y v' e1 e2 e3=>?_⟩,λy c' e=>?_,I.free,I.cL,λp hp=>?_,tracked ⟨oc,hoc,I.cL x c hc⟩ hs,by simpa using I.len⟩ ⟨c,hs,.inr hc⟩
  ·exact (hs.2 b (ς (τ (Ψ e) (I.ok.cab x c hfn hc)))).trans (I.base.keep b o e n hb hx)
  ·obtain ⟨sl,e1⟩:=I.base.slot b o e n hb hx
   exact ⟨sl,(hs.2 b (ς (τ (Ψ e) (I.ok.cab x c hfn hc)))).trans e1⟩
  ·obtain ⟨o',e1⟩:=I.base.there b o e hx
   exact ⟨o',(hs.2 b (ς (τ (Ψ e) (I.ok.cab x c hfn hc)))).trans e1⟩
  ·by_cases hj:j=i
   ·subst hj
    rw [hi] at e1;cases e1
    rw [List.getElem?_set_self vg] at e2
    cases e2
    exact ⟨u,r,.inr ⟨.inl hk,c,hc,hc'⟩⟩
   ·rw [List.getElem?_set_ne (am hj)] at e2
    obtain ⟨u',r',q⟩:=hl j y v' e1 e2 e3;refine ⟨u',r',?_⟩;rcases q with q | ⟨k,c',e,z'⟩
    ·exact .inl q
    ·refine .inr ⟨k,c',e,z'.sameBut hs ?_⟩
     rintro rfl;exact hj (Dk hN e1 (I.ok.inj _ _ _ e hc▸hi))
  ·by_cases hcc:c'=c
   ·subst hcc;exact ⟨_,hc'⟩
   ·obtain ⟨w2,z2⟩:=I.cell y c' e
    exact ⟨w2,z2.sameBut hs hcc⟩
  ·obtain ⟨e,n,ne,nf,d⟩:=I.pin p hp
   refine ⟨(hs.2 p.1 ?_).trans e,n,ne,nf,d⟩;intro q;rw [q,hoc] at e
   have q':oc=p.2:=Γ e;exact d w' (by rw [<- q'];exact Nb)
theorem UC {M:Model} {A:ag} {E:Α->Δ->Prop} {i:Nat} {x:Str} {v:V} {u:Α} {Q:Unit->Δ->Prop} (I:Inv X pins σ H s) (hN:X.N.Nodup) (hi:X.N[i]?=some x) (hx:Loc X.env.scope x) (r:YD v u)
  (h:∀ s',Inv X pins (σ.set i (some v)) H s'->Q () s') (hf:X.fn x=true\/X.env.scope.names.lookup x=some .local:=by first | exact .inl rfl | exact .inr rfl | assumption):Χ M A (storeName X.env x u) Q E s :=
 OD I hN hi hx r (λs' I' _=>h s' I') hf
theorem Inv.call' {s':Δ} {ch:List Addr} (I:Inv X pins σ H s) (ho:s'.os=s.os) (u:Un (frs X.stack) ch H H' s.heap s'.heap) (hok:bD X.prog X.w H' s'.heap) (hg:hV s'.gens)
  (hch:∀ b∈ch,(b∈X.ex\/X.s₀.heap.objs.size<=b)/\b≠X.env.locals/\(∀ x c,X.env.cells.lookup x=some c->c≠b)/\∀ p∈X.pn++pins,p.1≠b):Inv X pins σ H' s':=by
 obtain ⟨h',g',d',t',o'⟩:=s';have e:o'=s.os:=ho;subst e;exact I.call (g':=g') (t':=t') (d':=d') u hok hg hch
end
abbrev XK:=Α->Option Addr->Hp->Prop
abbrev St:=List (Option V)
abbrev VK:=V->Hp->Prop
abbrev TE:=St->Hp->VK->Prop
abbrev TT:=St->Hp->(Bool->Hp->Prop)->Prop
abbrev TA:=St->Hp->(List V->Hp->Prop)->Prop
structure Ends where
 nx:St->Hp->Prop
 rt:VK
 bk:St->Hp->Prop:=λ_ _=>False
 ct:St->Hp->Prop:=λ_ _=>False
abbrev TS:=Ends->St->Hp->Prop
def EP (X:Cx) (pins:List (Addr×Obj)) (σ:St) (Q:VK) (u:Α) (s':Δ):Prop:=∃ v H',Inv X pins σ H' s'/\YD v u/\Q v H'
def TP (X:Cx) (pins:List (Addr×Obj)) (σ:St) (Q:Bool->Hp->Prop) (b:Bool) (s':Δ):Prop:=∃ H',Inv X pins σ H' s'/\Q b H'
def AP (X:Cx) (pins:List (Addr×Obj)) (σ:St) (Q:List V->Hp->Prop) (us:List Α) (s':Δ):Prop:=∃ vs H',Inv X pins σ H' s'/\Yt vs us/\Q vs H'
def SP (X:Cx) (pins:List (Addr×Obj)) (D:Ends) (f:Flow) (s':Δ):Prop :=
 match f with
 | .next=>∃ σ' H',Inv X pins σ' H' s'/\D.nx σ' H'
 | .brk=>∃ σ' H',Inv X pins σ' H' s'/\D.bk σ' H'
 | .cont=>∃ σ' H',Inv X pins σ' H' s'/\D.ct σ' H'
 | .ret u=>∃ v σ' H',Inv X pins σ' H' s'/\YD v u/\D.rt v H'
def PE (X:Cx) (e:Expr) (t:TE):Prop :=
 ∀ (pins:List (Addr×Obj)) (s:Δ) (σ:St) (H:Hp) (Q:VK),Inv X pins σ H s->t σ H Q->Χ (Ω X.prog X.w) X.A (eval e X.env) (EP X pins σ Q) X.xe s
def PT (X:Cx) (e:Expr) (t:TT):Prop :=
 ∀ (pins:List (Addr×Obj)) (s:Δ) (σ:St) (H:Hp) (Q:Bool->Hp->Prop),Inv X pins σ H s->t σ H Q->Χ (Ω X.prog X.w) X.A (isTrue e X.env (eval e X.env)) (TP X pins σ Q) X.xe s
def PW (X:Cx) (e:Expr) (t:TT):Prop :=
 ∀ (whole:Sem Α) (pins:List (Addr×Obj)) (s:Δ) (σ:St) (H:Hp) (Q:Bool->Hp->Prop),Inv X pins σ H s->t σ H Q->Χ (Ω X.prog X.w) X.A (isTrue e X.env whole) (TP X pins σ Q) X.xe s
theorem PW.pt {X:Cx} {e:Expr} {t:TT} (h:PW X e t):PT X e t:=h _
def PA (X:Cx) (es:List Expr) (t:TA):Prop :=
 ∀ (pos:Pos) (pins:List (Addr×Obj)) (s:Δ) (σ:St) (H:Hp) (Q:List V->Hp->Prop),Inv X pins σ H s->t σ H Q->Χ (Ω X.prog X.w) X.A (spliced (bS pos (θ es X.env))) (AP X pins σ Q) X.xe s
def PS (X:Cx) (st:Stmt) (t:TS):Prop :=
 ∀ (pins:List (Addr×Obj)) (s:Δ) (σ:St) (H:Hp) (D:Ends),Inv X pins σ H s->t D σ H->Χ (Ω X.prog X.w) X.A (exec st X.env) (SP X pins D) X.xe s
def eF (X:Cx) (st:List Stmt) (t:TS):Prop :=
 ∀ (pins:List (Addr×Obj)) (s:Δ) (σ:St) (H:Hp) (D:Ends),Inv X pins σ H s->t D σ H->Χ (Ω X.prog X.w) X.A (execs st X.env) (SP X pins D) X.xe s
theorem aA {α:Type} {t:Sem α} {Q Q':α->Δ->Prop} {M:Model} {A:ag} {E:Α->Δ->Prop} {s:Δ} (h:Χ M A t Q E s) (hQ:∀ a s,Q a s->Q' a s):Χ M A t Q' E s:=bb h hQ λ_ _ x=>x
section
variable {X:Cx}
def kI (x:V) (k:Int->Prop):Prop:=match x with | .int i=>k i | _=>False
def kB (x:V) (k:Bool->Prop):Prop:=match x with | .bl i=>k i | _=>False
def kR (x:V) (k:Addr->Prop):Prop:=match x with | .ref i=>k i | _=>False
def k1 (l:List V) (k:V->Prop):Prop:=match l with | [x]=>k x | _=>False
def k2 (l:List V) (k:V->V->Prop):Prop:=match l with | [x,y]=>k x y | _=>False
theorem Dl (i:Int) (k:Int->Prop):kI (.int i) k=k i:=rfl
theorem Dm (i:Bool) (k:Bool->Prop):kB (.bl i) k=k i:=rfl
theorem Dn (i:Addr) (k:Addr->Prop):kR (.ref i) k=k i:=rfl
theorem Dp (x:V) (k:V->Prop):k1 [x] k=k x:=rfl
theorem Dq (x y:V) (k:V->V->Prop):k2 [x,y] k=k x y:=rfl
theorem Qo {x:V} {k:Int->Prop}:kI x k↔∃ i,x = .int i/\k i:=⟨λh=>by cases x<;>first | exact ⟨_,rfl,h⟩ | exact h.elim,λ⟨_,e,h⟩=>e▸h⟩
theorem sS {x:V} {k:Bool->Prop}:kB x k↔∃ i,x = .bl i/\k i:=⟨λh=>by cases x<;>first | exact ⟨_,rfl,h⟩ | exact h.elim,λ⟨_,e,h⟩=>e▸h⟩
theorem Ve {x:V} {k:Addr->Prop}:kR x k↔∃ i,x = .ref i/\k i:=⟨λh=>by cases x<;>first | exact ⟨_,rfl,h⟩ | exact h.elim,λ⟨_,e,h⟩=>e▸h⟩
theorem vh {l:List V} {k:V->Prop} (h:k1 l k):∃ x,l=[x]/\k x:=by
 unfold k1 at h
 split at h
 ·exact ⟨_,rfl,h⟩
 ·exact h.elim
theorem qU {l:List V} {k:V->V->Prop} (h:k2 l k):∃ x y,l=[x,y]/\k x y:=by
 unfold k2 at h
 split at h
 ·exact ⟨_,_,rfl,h⟩
 ·exact h.elim
def iz:Nat->St->(V->Prop)->Prop
 | 0,σ,k=>match σ with | some v::_=>k v | _=>False
 | n+1,σ,k=>match σ with | _::l=>iz n l k | []=>False
theorem Ds (v:V) (l:St) (k:V->Prop):iz 0 (some v::l) k=k v:=rfl
theorem Dt (n:Nat) (a:Option V) (l:St) (k:V->Prop):iz (n+1) (a::l) k=iz n l k:=rfl
theorem vm:∀ {n:Nat} {σ:St} {k:V->Prop},iz n σ k->∃ v,σ[n]?=some (some v)/\k v
 | 0,σ,k,h=>by
  unfold iz at h
  split at h
  ·exact ⟨_,rfl,h⟩
  ·exact h.elim
 | n+1,σ,k,h=>by
  unfold iz at h
  split at h
  ·exact vm (n:=n) h
  ·exact h.elim
def WU (i:Nat):TE:=λσ H Q=>iz i σ λv=>Q v H
def tC (v:V):TE:=λ_ H Q=>Q v H
theorem OJ {i:Nat} {x:Str} {pos:Pos} (hN:X.N[i]?=some x) (hv:sJ X.env.scope x) (hd:(x==("__debug__":Str))=false:=by decide) (hcd:(x==("__classdict__":Str))=false:=by decide):PE X (.Name x pos) (WU i):=by
 intro pins s σ H Q I h;obtain ⟨v,e,h⟩:=vm h;obtain ⟨m,hn,hl⟩:=I.loc;obtain ⟨u,r,l⟩:=hl i x v hN e hv;have fin:EP X pins σ Q u s:=⟨v,H,I,r,h⟩;rcases l with ⟨hk,hm⟩ | ⟨hk,c,hc,hcell⟩
 ·exact wpAny_Name (wpAny_loadName_local I.ok.kind hk hn hm fin) hd
 ·rcases hk with hk | hk
  ·exact wpAny_Name (wpAny_loadName_cell I.ok.kind hk hc hcell fin) hd
  ·exact wpAny_Name (wpAny_loadName_free I.ok.kind hk hc hcell fin hcd) hd
theorem Yg {i j pos}:PE X (.Constant (.int i) j pos) (tC (.int i)):=λ_ _ _ H _ I h=>wpAny_Constant_int ⟨.int i,H,I.tok _,⟨_,rfl⟩,h⟩
theorem vo {b j pos}:PE X (.Constant (.bool b) j pos) (tC (.bl b)):=λ_ _ _ H _ I h=>Constant_bool ⟨.bl b,H,I,rfl,h⟩
theorem Dv {j pos}:PE X (.Constant .none j pos) (tC .non):=λ_ _ _ H _ I h=>Constant_none ⟨.non,H,I,rfl,h⟩
theorem YM {x j pos}:PE X (.Constant (.str x) j pos) (tC (.str x)):=λ_ _ _ H _ I h=>Calls.Constant_str ⟨.str x,H,I.tok _,⟨_,rfl⟩,h⟩
def Gl (X:Cx) (x:Str):Prop:=X.env.kindOf x=some .globalImplicit
theorem Uj {E:Α->Δ->Prop} {pins:List (Addr×Obj)} {s:Δ} {σ:St} {H:Hp} {x:Str} {u:Α} {pos:Pos} {Q:Α->Δ->Prop} (I:Inv X pins σ H s) (hg:Gl X x) (hm:X.mg x=some u) (h:Q u s)
  (hd:(x==("__debug__":Str))=false:=by decide):Χ (Ω X.prog X.w) X.A (eval (.Name x pos) X.env) Q E s :=
 Calls.Name_function_global I.ok.kind hg (Calls.loadGlobal_global (by rw [I.ok.glob];exact I.mod.glob.keeps I.bk) hm h) hd
theorem WV {E:Α->Δ->Prop} {pins:List (Addr×Obj)} {s:Δ} {σ:St} {H:Hp} {x:Str} {u:Α} {pos:Pos} {Q:Α->Δ->Prop} (I:Inv X pins σ H s) (hg:Gl X x) (hm:X.mg x=none) (hv:dn x=some u) (h:Q u s)
  (hn:x≠"__name__":=by decide) (hd:(x==("__debug__":Str))=false:=by decide):Χ (Ω X.prog X.w) X.A (eval (.Name x pos) X.env) Q E s:=by
 obtain ⟨mb,h1,h2⟩:=I.mod.blt;exact Calls.Name_function_global I.ok.kind hg (Calls.loadGlobal_builtin (by rw [I.ok.glob];exact I.mod.glob.keeps I.bk) hm (by rw [I.ok.blt];exact h1.keeps I.bk) ((h2 x hn).trans hv) h) hd
theorem Dw {x:Str} {v:V} {u:Α} {pos:Pos} (hg:Gl X x) (hm:X.mg x=some u) (r:YD v u) (hd:(x==("__debug__":Str))=false:=by decide):PE X (.Name x pos) (tC v) :=
 λ_ _ _ H _ I h=>Uj I hg hm ⟨v,H,I,r,h⟩ hd
theorem O1 {x:Str} {v:V} {u:Α} {pos:Pos} (hg:Gl X x) (hm:X.mg x=none) (hv:dn x=some u) (r:YD v u) (hn:x≠"__name__":=by decide) (hd:(x==("__debug__":Str))=false:=by decide):PE X (.Name x pos) (tC v) :=
 λ_ _ _ H _ I h=>WV I hg hm hv ⟨v,H,I,r,h⟩ hn hd
variable {a b:Expr} {ta tb:TE} {pos:Pos}
def tB (t:TE):TT:=λσ H Q=>t σ H λx H1=>kB x λc=>Q c H1
theorem Wa {e:Expr} {t:TE} (h:PE X e t) (he:∀ whole,isTrue e X.env whole=(do let v <- whole;standAt e.pos;holding [v] (truthy v)):=by intro _;rfl):PT X e (tB t):=by
 intro pins s σ H Q I hw;refine isTrue_plain (aA (h pins s σ H _ I hw) λv s1 ⟨x,H1,I1,r1,q1⟩=>?_) (he _);obtain ⟨d,rfl,q⟩:=sS.mp q1
 cases r1
 exact wpAny_truthy_bool ⟨H1,I1,q⟩
variable {tA sU:TT} {YI:List Expr}
def qW (t u:TT):TT:=λσ H Q=>t σ H λc H1=>if c=true then u σ H1 Q else Q false H1
def vp (t u:TT):TT:=λσ H Q=>t σ H λc H1=>if c=true then Q true H1 else u σ H1 Q
def qX (t:TT):TT:=λσ H Q=>t σ H λc H1=>Q (!c) H1
theorem O2 (ha:PT X a tA):PW X (.BoolOp .And [a] pos) tA:=by
 intro wh pins s σ H Q I h;refine isTrue_and (aA (ha pins s σ H Q I h) λc s1 e=>?_)
 cases c with
 | true=>exact isTrue_and_nil e
 | false=>exact e
theorem Vh (ha:PT X a tA):PW X (.BoolOp .Or [a] pos) tA:=by
 intro wh pins s σ H Q I h;refine isTrue_or (aA (ha pins s σ H Q I h) λc s1 e=>?_)
 cases c with
 | false=>exact isTrue_or_nil e
 | true=>exact e
theorem O4 (ha:PT X a tA) (hb:PW X (.BoolOp .And (b::YI) pos) sU):PW X (.BoolOp .And (a::b::YI) pos) (qW tA sU):=by
 intro wh pins s σ H Q I h;refine isTrue_and (aA (ha pins s σ H _ I h) λc s1 ⟨H1,I1,q1⟩=>?_)
 cases c with
 | true=>exact hb wh pins s1 σ H1 Q I1 q1
 | false=>exact ⟨H1,I1,q1⟩
theorem Vs (ha:PT X a tA) (hb:PW X (.BoolOp .Or (b::YI) pos) sU):PW X (.BoolOp .Or (a::b::YI) pos) (vp tA sU):=by
 intro wh pins s σ H Q I h;refine isTrue_or (aA (ha pins s σ H _ I h) λc s1 ⟨H1,I1,q1⟩=>?_)
 cases c with
 | true=>exact ⟨H1,I1,q1⟩
 | false=>exact hb wh pins s1 σ H1 Q I1 q1
theorem UR (ha:PT X a tA):PT X (.UnaryOp .Not a pos) (qX tA):=by
 intro pins s σ H Q I h;exact isTrue_not (ha pins s σ H (λc H1=>Q (!c) H1) I h)
def vA (ta tb:TE):TE:=λσ H Q=>ta σ H λx H1=>kB x λc=>if c=true then tb σ H1 Q else Q (.bl false) H1
def vB (ta tb:TE):TE:=λσ H Q=>ta σ H λx H1=>kB x λc=>if c=true then Q (.bl true) H1 else tb σ H1 Q
def Dy (ta:TE):TE:=λσ H Q=>ta σ H λx H1=>kB x λc=>Q (.bl (!c)) H1
theorem vC {op} {t:TE} (h:PE X a t):PE X (.BoolOp op [a] pos) t:=λpins s σ H Q I hw=>BoolOp_one (h pins s σ H Q I hw)
theorem vD (ha:PE X a ta) (hb:PE X (.BoolOp .And (b::YI) pos) tb):PE X (.BoolOp .And (a::b::YI) pos) (vA ta tb):=by
 intro pins s σ H Q I h;refine BoolOp_and (aA (ha pins s σ H _ I h) λv s1 ⟨x,H1,I1,r1,q1⟩=>?_)
 replace q1:=sS.mp q1
 obtain ⟨c,rfl,q1⟩:=q1
 cases r1
 refine wpAny_truthy_bool ?_
 cases c with
 | true=>exact hb pins s1 σ H1 Q I1 q1
 | false=>exact ⟨.bl false,H1,I1,rfl,q1⟩
def vG (t:TT) (ta tb:TE):TE:=λσ H Q=>t σ H λc H1=>if c=true then ta σ H1 Q else tb σ H1 Q
theorem Vt {c:Expr} (hc:PT X c tA) (ha:PE X a ta) (hb:PE X b tb):PE X (.IfExp c a b pos) (vG tA ta tb):=by
 intro pins s σ H Q I h;refine wpAny_IfExp (aA (hc pins s σ H _ I h) λd s1 ⟨H1,I1,q1⟩=>?_)
 cases d with
 | true=>exact ha pins s1 σ H1 Q I1 q1
 | false=>exact hb pins s1 σ H1 Q I1 q1
end
def ao (K:Ι) (H:Hp) (a:Addr) (xs:List V):Prop :=
 Rd H a (.lst xs) \/
  ∃ (o:Obj) (its:Array Α) (n:Nat),K.lookup a=some o/\o.cls = .type "list"/\o.dict=none/\o.data = .seq its n/\its.size<=sizeLine/\Yt xs its.toList
def aH (K:Ι) (H:Hp) (a:Addr) (xs:List V):Prop :=
 Rd H a (.tup xs) \/
  ∃ (o:Obj) (its:Array Α) (n:Nat),K.lookup a=some o/\o.cls = .type "tuple"/\o.data = .seq its n/\its.size<=sizeLine/\Yt xs its.toList
def Nf:Α->Option V
 | .none=>some .non
 | .bool b=>some (.bl b)
 | .int i _=>some (.int i)
 | .str x _=>some (.str x)
 | .bytes b _=>some (.fJ b)
 | .float b _=>some (.flt b)
 | .ref a=>some (.ref a)
 | .type n=>some (.ty n)
 | _=>none
theorem YD.abs {x:V} {u:Α} (r:YD x u):Nf u=some x:=by
 cases x with
 | non=>cases r;rfl
 | bl _=>cases r;rfl
 | int _=>obtain ⟨t,rfl⟩:=r;rfl
 | str _=>obtain ⟨t,rfl⟩:=r;rfl
 | fJ _=>obtain ⟨t,rfl⟩:=r;rfl
 | flt _=>obtain ⟨t,rfl⟩:=r;rfl
 | ref _=>cases r;rfl
 | ty _=>cases r;rfl
theorem YD.inj {x y:V} {u:Α} (r:YD x u) (q:YD y u):x=y:=Γ (r.abs.symm.trans q.abs)
theorem Yt.inj:∀ {xs ys:List V} {us:List Α},Yt xs us->Yt ys us->xs=ys
 | _,_,_,.nil,.nil=>rfl
 | _,_,_,.cons r t,.cons r' t'=>by rw [r.inj r',Yt.inj t t']
section
variable {X:Cx} {pins:List (Addr×Obj)} {σ:St} {H:Hp} {s:Δ} {a:Addr} {xs ys:List V}
theorem ao.of {K:Ι} (h:H a=some (.lst xs)):ao K H a xs := .inl (.inl h)
theorem aH.of {K:Ι} (h:H a=some (.tup xs)):aH K H a xs := .inl (.inl h)
theorem Inv.list (I:Inv X pins σ H s) (h:ao X.K H a xs):∃ its:List Α,Yt xs its/\PlainL s.heap a its.toArray/\xs.length<=sizeLine:=by
 rcases h with h | ⟨o,its,n,hk,hc,hd,hs,hz,r⟩
 ·obtain ⟨z,its,n,r,e⟩:=h.ok I.hok
  exact ⟨its,r,⟨_,n,e,rfl,rfl,rfl⟩,z⟩
 ·refine ⟨its.toList,r,⟨o,n,I.bF a o hk,hc,hd,by simpa using hs⟩,?_⟩
  have e:=r.length;simp only [f8] at e;omega
theorem Inv.tuple (I:Inv X pins σ H s) (h:aH X.K H a xs):∃ its:List Α,Yt xs its/\IsTup s.heap a its.toArray/\xs.length<=sizeLine:=by
 rcases h with h | ⟨o,its,n,hk,hc,hs,hz,r⟩
 ·obtain ⟨z,its,r,p⟩:=h.ok I.hok
  exact ⟨its,r,p,z⟩
 ·refine ⟨its.toList,r,⟨o,I.bF a o hk,hc,n,by simpa using hs⟩,?_⟩
  have e:=r.length;simp only [f8] at e;omega
theorem Inv.jK (I:Inv X pins σ H s) (h:ao X.K H a xs) (h':ao X.K H a ys):xs=ys:=by
 obtain ⟨its,r,⟨o,n,e,_,_,d⟩,_⟩:=I.list h;obtain ⟨its',r',⟨o',n',e',_,_,d'⟩,_⟩:=I.list h';rw [e] at e';cases e'
 rw [d] at d'
 injection d' with d1 _
 have:its=its':=by simpa using congrArg Array.toList d1
 subst this;exact r.inj r'
theorem Inv.oJ (I:Inv X pins σ H s) (h:aH X.K H a xs) (h':aH X.K H a ys):xs=ys:=by
 obtain ⟨its,r,⟨o,e,_,n,d⟩,_⟩:=I.tuple h;obtain ⟨its',r',⟨o',e',_,n',d'⟩,_⟩:=I.tuple h';rw [e] at e';cases e'
 rw [d] at d'
 injection d' with d1 _
 have:its=its':=by simpa using congrArg Array.toList d1
 subst this;exact r.inj r'
end
abbrev Cx.wish (X:Cx) (E:Α->Δ->Prop):Cx:={ X with xe:=E }
abbrev Cx.jL (X:Cx):Cx:=X.wish λ_ _=>False
theorem Cx.Ok.wish {X:Cx} (ok:X.Ok) (E:Α->Δ->Prop):(X.wish E).Ok :=
 ⟨ok.mod,ok.kind,ok.glob,ok.blt,ok.above,ok.inj,ok.has,ok.cab,ok.hd,ok.frames,ok.stk,ok.Di,ok.bs,ok.fX,ok.jh,ok.mY,ok.dF,ok.jH⟩
theorem Cx.Ok.cM {X:Cx} {E:Α->Δ->Prop} (ok:(X.wish E).Ok):X.Ok :=
 ⟨ok.mod,ok.kind,ok.glob,ok.blt,ok.above,ok.inj,ok.has,ok.cab,ok.hd,ok.frames,ok.stk,ok.Di,ok.bs,ok.fX,ok.jh,ok.mY,ok.dF,ok.jH⟩
section
variable {X:Cx} {pins:List (Addr×Obj)} {σ:St} {H:Hp} {s:Δ} {E:Α->Δ->Prop}
theorem Inv.wish (I:Inv X pins σ H s) (E:Α->Δ->Prop):Inv (X.wish E) pins σ H s:=⟨I.ok.wish E,I.os,I.bare,I.base,I.loc,I.cell,I.free,I.cL,I.pin,I.hok,I.len⟩
theorem Inv.cM (I:Inv (X.wish E) pins σ H s):Inv X pins σ H s:=⟨I.ok.cM,I.os,I.bare,I.base,I.loc,I.cell,I.free,I.cL,I.pin,I.hok,I.len⟩
theorem SP.cM {D:Ends} {f:Flow} {s':Δ} (h:SP (X.wish E) pins D f s'):SP X pins D f s':=by
 cases f with
 | next=>obtain ⟨σ',H',I,q⟩:=h;exact ⟨σ',H',I.cM,q⟩
 | brk=>obtain ⟨σ',H',I,q⟩:=h;exact ⟨σ',H',I.cM,q⟩
 | cont=>obtain ⟨σ',H',I,q⟩:=h;exact ⟨σ',H',I.cM,q⟩
 | ret u=>obtain ⟨v,σ',H',I,r,q⟩:=h;exact ⟨v,σ',H',I.cM,r,q⟩
theorem eF.jL {st:List Stmt} {t:TS} (h:eF X.jL st t):eF X st t:=λpins s σ H D I hw =>
 bb (h pins s σ H D (I.wish _) hw) (λ_ _ q=>q.cM) λ_ _ z=>ca z
end
section
variable {X:Cx} {st:Stmt} {YI:List Stmt} {t u:TS} {e:Expr} {te:TE} {pos:Pos}
def vH:TS:=λD σ H=>D.nx σ H
def XS (t u:TS):TS:=λD σ H=>t { D with nx:=u D } σ H
theorem Yw:eF X [] vH:=λ_ _ σ H _ I h=>ii ⟨σ,H,I,h⟩
theorem Ye (h1:PS X st t) (h2:eF X YI u):eF X (st::YI) (XS t u):=by
 intro pins s σ H D I h;refine wpAny_execs_cons (aA (h1 pins s σ H { D with nx:=u D } I h) λf s1 q=>?_)
 cases f with
 | next =>
  obtain ⟨σ',H',I',q⟩:=q;exact h2 pins s1 σ' H' D I' q
 | ret v=>exact q
 | brk=>exact q
 | cont=>exact q
theorem Yi (h1:PS X st t):eF X [st] t:=by
 intro pins s σ H D I h;refine wpAny_execs_cons (aA (h1 pins s σ H D I h) λf s1 q=>?_)
 cases f with
 | next=>exact ii q
 | ret v=>exact q
 | brk=>exact q
 | cont=>exact q
def Dz:TS:=λD σ H=>D.bk σ H
def DG:TS:=λD σ H=>D.ct σ H
theorem Inv.quiet {pins:List (Addr×Obj)} {σ:St} {H:Hp} {s:Δ} (I:Inv X pins σ H s):interactive X.env=false:=by simp [interactive,I.ok.kind]
def sV (te:TE):TS:=λD σ H=>te σ H λ_ H1=>D.nx σ H1
theorem YY (he:PE X e te) (hs:swapsWith e none pos.line X.env=pure false:=by rfl):PS X (.Expr e pos) (sV te):=by
 intro pins s σ H D I h;exact wpAny_Expr_any (aA (he pins s σ H _ I h) λv s1 ⟨x,H1,I1,r1,q1⟩=>⟨σ,H1,I1,q1⟩) I.quiet hs
def oK (te:TE):TS:=λD σ H=>te σ H D.rt
theorem Yn (he:PE X e te):PS X (.Return (some e) pos) (oK te):=by
 intro pins s σ H D I h;exact wpAny_Return_some (aA (he pins s σ H _ I h) λv s1 ⟨x,H1,I1,r1,q1⟩=>⟨x,σ,H1,I1,r1,q1⟩)
def DN:TS:=λD _ H=>D.rt .non H
def qY (c:TT) (t u:TS):TS:=λD σ H=>c σ H λb H1=>if b=true then t D σ H1 else u D σ H1
theorem YF {c:Expr} {a b:List Stmt} {tc:TT} (hc:PT X c tc) (ha:eF X a t) (hb:eF X b u):PS X (.If c a b pos) (qY tc t u):=by
 intro pins s σ H D I h;refine wpAny_If (aA (hc pins s σ H _ I h) λd s1 ⟨H1,I1,q1⟩=>?_)
 cases d with
 | true=>exact ha pins s1 σ H1 D I1 q1
 | false=>exact hb pins s1 σ H1 D I1 q1
def vI:TS:=λ_ _ _=>False
theorem Vu:PS X st vI:=λ_ _ _ _ _ _ h=>h.elim
end
abbrev TG:=V->St->Hp->(St->Hp->Prop)->Prop
abbrev jM:=List V->St->Hp->(St->Hp->Prop)->Prop
def PG (X:Cx) (target:Expr) (t:TG):Prop :=
 ∀ (pins:List (Addr×Obj)) (s:Δ) (σ:St) (H:Hp) (v:V) (u:Α) (Q:St->Hp->Prop),Inv X pins σ H s->YD v u->t v σ H Q ->
  Χ (Ω X.prog X.w) X.A (assign target X.env u) (λ_ s'=>∃ σ' H',Inv X pins σ' H' s'/\Q σ' H') X.xe s
def sW (X:Cx) (ts:List Expr) (t:jM):Prop :=
 ∀ (pins:List (Addr×Obj)) (s:Δ) (σ:St) (H:Hp) (vs:List V) (us:List Α) (Q:St->Hp->Prop),Inv X pins σ H s->Yt vs us->t vs σ H Q ->
  Χ (Ω X.prog X.w) X.A (assignInOrder ((gv ts X.env).map (·.2)) us) (λ_ s'=>∃ σ' H',Inv X pins σ' H' s'/\Q σ' H') X.xe s
abbrev Ng:=V->V->V->Hp->(Hp->Prop)->Prop
abbrev sY:=V->V->Hp->VK->Prop
def vJ (X:Cx) (op:Operator) (t:sY):Prop :=
 ∀ (pins:List (Addr×Obj)) (s:Δ) (σ:St) (H:Hp) (x y:V) (v u:Α) (Q:VK),Inv X pins σ H s->YD x v->YD y u->t x y H Q ->
  Χ (Ω X.prog X.w) X.A (inplaceOp op v u) (EP X pins σ Q) X.xe s
section
variable {X:Cx} {pos:Pos}
def Yy (i:Nat):TG:=λv σ H Q=>Q (σ.set i (some v)) H
theorem Yu {i:Nat} {x:Str} (hN:X.N.Nodup) (hi:X.N[i]?=some x) (hx:Loc X.env.scope x) (hf:X.fn x=true\/X.env.scope.names.lookup x=some .local:=by first | exact .inl rfl | exact .inr rfl | assumption):PG X (.Name x pos) (Yy i):=by
 intro pins s σ H v u Q I r h;exact wpAny_assign_Name (UC I hN hi hx r (λs' I'=>⟨_,H,I',h⟩) hf)
def Vv:jM:=λvs σ H Q=>vs=[]/\Q σ H
def XB (t:TG) (u:jM):jM:=λvs σ H Q=>∃ v r,vs=v::r/\t v σ H λσ' H'=>u r σ' H' Q
theorem Vi:sW X [] Vv:=by
 intro pins s σ H vs us Q I r h;obtain ⟨e,h⟩:=h;subst e
 cases r
 exact assignInOrder_nil ⟨σ,H,I,h⟩
theorem Xz {e:Expr} {es:List Expr} {t:TG} {u:jM} (h1:PG X e t) (h2:sW X es u)
  (hs:(gv (e::es) X.env).map (·.2)=assign e X.env::(gv es X.env).map (·.2):=by rfl):sW X (e::es) (XB t u):=by
 intro pins s σ H vs us Q I r h;obtain ⟨v,vr,e1,h⟩:=h;subst e1
 cases r with
 | cons r rr =>
  rw [hs];refine assignInOrder_cons (aA (h1 pins s σ H _ _ _ I r h) λ_ s1 ⟨σ1,H1,I1,q1⟩=>?_);exact h2 pins s1 σ1 H1 _ _ Q I1 rr q1
def Vf (K:Ι) (n:Nat) (t:jM):TG:=λv σ H Q=>∃ a xs,v = .ref a/\aH K H a xs/\xs.length=n/\t xs σ H Q
theorem VR {es:List Expr} {k:Nat} {t:jM} {n:Nat} (hc:X.calm=true) (h:sW X es t)
  (hn:(gv es X.env).length=n:=by rfl) (hst:(gv es X.env).findIdx? (·.1)=none:=by rfl):PG X (.Tuple es k pos) (Vf X.K n t):=by
 intro pins s σ H v u Q I r hw;obtain ⟨a,xs,e1,hq,hl,hw⟩:=hw;subst e1
 cases r
 obtain ⟨its,rv,ht,hz⟩:=I.tuple hq;refine assign_Tuple_tuple (I.ok.hd hc) ht (by simp [hn,<- hl,rv.length]) hst λh' hx=>?_
 have I1:Inv X pins σ H { s with heap:=h' }:=I.kept (t':=s.toks) λb o e=>hx b o (ς (Ψ e)) e
 exact h pins _ σ H xs _ Q I1 (by simpa using rv) hw
def vK (to ti:TE) (t:Ng):TG:=λv σ H Q=>to σ H λo H1=>ti σ H1 λi H2=>t o i v H2 λH3=>Q σ H3
def sZ (te:TE) (g:TG):TS:=λD σ H=>te σ H λx H1=>g x σ H1 D.nx
theorem Yp {i:Nat} {x:Str} {e:Expr} {te:TE} {pos':Pos} (hN:X.N.Nodup) (hi:X.N[i]?=some x) (hx:Loc X.env.scope x) (he:PE X e te) (hs:swapsWith e (some (.Name x pos')) pos.line X.env=pure false:=by rfl) (hf:X.fn x=true\/X.env.scope.names.lookup x=some .local:=by first | exact .inl rfl | exact .inr rfl | assumption) :
  PS X (.Assign [.Name x pos'] e pos) (sZ te (Yy i)):=by
 intro pins s σ H D I h;refine wpAny_Assign_Name (aA (he pins s σ H _ I h) λv s1 ⟨y,H1,I1,r1,q1⟩=>?_) hs;exact UC I1 hN hi hx r1 (λs2 I2=>⟨_,H1,I2,q1⟩) hf
def qZ (i:Nat) (te:TE) (ti:sY):TS:=λD σ H=>iz i σ λx=>te σ H λy H1=>ti x y H1 λz H2=>D.nx (σ.set i (some z)) H2
theorem US {i:Nat} {x:Str} {e:Expr} {te:TE} {op:Operator} {ti:sY} {pos':Pos} (hN:X.N.Nodup) (hi:X.N[i]?=some x) (hx:Loc X.env.scope x) (he:PE X e te) (ho:vJ X op ti) (hf:X.fn x=true\/X.env.scope.names.lookup x=some .local:=by first | exact .inl rfl | exact .inr rfl | assumption) :
  PS X (.AugAssign (.Name x pos') op e pos) (qZ i te ti):=by
 intro pins s σ H D I h;obtain ⟨v,e1,h⟩:=vm h;obtain ⟨m,hn,hl⟩:=I.loc;have vis:sJ X.env.scope x:=by rcases hx with k | k;exact .inl k;exact .inr (.inl k)
 obtain ⟨u,r,l⟩:=hl i x v hi e1 vis;refine wpAny_AugAssign_Name ?_;have go:Χ (Ω X.prog X.w) X.A (eval e X.env) (λw s₂=>Χ (Ω X.prog X.w) X.A (inplaceOp op u w) (λr s₃=>Χ (Ω X.prog X.w) X.A (storeName X.env x r) (λ_=>SP X pins D .next) X.xe s₃) X.xe s₂) X.xe s:=by
  refine aA (he pins s σ H _ I h) λw s1 ⟨y,H1,I1,r1,q1⟩=>?_
  refine aA (ho pins s1 σ H1 v y u w _ I1 r r1 q1) λz s2 ⟨zv,H2,I2,r2,q2⟩=>?_
  exact UC I2 hN hi hx r2 (λs3 I3=>⟨_,H2,I3,q2⟩) hf
 rcases l with ⟨hk,hm⟩ | ⟨hk,c,hc,hcell⟩
 ·exact wpAny_loadName_local I.ok.kind hk hn hm go
 ·rcases hk with hk | hk
  ·exact wpAny_loadName_cell I.ok.kind hk hc hcell go
  ·rcases hx with k | k
   ·have:X.env.scope.names.lookup x=some .free:=hk
    rw [k] at this;cases this
   ·have:X.env.scope.names.lookup x=some .free:=hk
    rw [k] at this;cases this
def tu (f:Int->Int->Int):sY:=λx y H Q=>kI x λi=>kI y λj=>Q (.int (f i j)) H
theorem jN {x y:V} {k:Int->Int->Prop} (h:kI x λi=>kI y λj=>k i j):∃ i j,x = .int i/\y = .int j/\k i j:=by
 obtain ⟨i,e,h⟩:=Qo.mp h;obtain ⟨j,e',h⟩:=Qo.mp h;exact ⟨i,j,e,e',h⟩
theorem O5:vJ X .Add (tu λi j=>i+j):=by
 intro pins s σ H x y v u Q I r1 r2 h;obtain ⟨i,j,e1,e2,q⟩:=jN h;subst e1;subst e2;obtain ⟨t,rfl⟩:=r1;obtain ⟨t',rfl⟩:=r2;exact iadd_int ⟨.int _,H,I.tok _,⟨_,rfl⟩,q⟩
theorem vL:vJ X .Sub (tu λi j=>i - j):=by
 intro pins s σ H x y v u Q I r1 r2 h;obtain ⟨i,j,e1,e2,q⟩:=jN h;subst e1;subst e2;obtain ⟨t,rfl⟩:=r1;obtain ⟨t',rfl⟩:=r2;exact isub_int ⟨.int _,H,I.tok _,⟨_,rfl⟩,q⟩
def DP (c:TT) (tb:TS):TS:=λD σ H=>∃ W:Nat->St->Hp->Prop,(∃ m,W m σ H)/\∀ m σ H,W m σ H ->
 c σ H λb H1=>if b=true then ∃ N:St->Hp->Prop,(∀ σ' H',N σ' H'->∃ m',m'<m/\W m' σ' H')/\tb { D with nx:=N,ct:=N,bk:=D.nx } σ H1 else D.nx σ H1
theorem WW {c:Expr} {body:List Stmt} {tc:TT} {tb:TS} (hp:PassesOwn (Ω X.prog X.w) X.A X.env X.xe) (hc:PT X c tc) (hb:eF X body tb):PS X (.While c body [] pos) (DP tc tb):=by
 intro pins s σ H D I h;obtain ⟨W,⟨m0,w0⟩,turn⟩:=h;refine wpAny_While (codeAny_whileLoop (λn s'=>∃ σ' H',Inv X pins σ' H' s'/\W n σ' H') ?_ m0 ⟨σ,H,I,w0⟩);rintro n s1 ⟨σ1,H1,I1,w1⟩;refine dE hp (aA (hc pins s1 σ1 H1 _ I1 (turn n σ1 H1 w1)) λb s2 ⟨H2,I2,q2⟩=>?_)
 cases b with
 | true =>
  obtain ⟨N,hN,q2⟩:=q2;rw [if_pos rfl];refine dE hp (aA (hb pins s2 σ1 H2 _ I2 q2) λf s3 q3=>?_)
  cases f with
  | next =>
   obtain ⟨σ3,H3,I3,n3⟩:=q3;obtain ⟨m',hm,w3⟩:=hN σ3 H3 n3;exact ⟨m',hm,σ3,H3,I3,w3⟩
  | cont =>
   obtain ⟨σ3,H3,I3,n3⟩:=q3;obtain ⟨m',hm,w3⟩:=hN σ3 H3 n3;exact ⟨m',hm,σ3,H3,I3,w3⟩
  | brk=>exact q3
  | ret v=>exact q3
 | false =>
  rw [if_neg ρ];exact ii ⟨σ1,H2,I2,q2⟩
end
structure It where
 go:Nat->Hp->Prop
 iB:Nat->Hp->V->Hp->Prop
 stop:Nat->Hp->Prop
def X0 (X:Cx) (pins:List (Addr×Obj)) (H:Hp) (b:Addr):Prop :=
 H b=none/\b≠X.env.locals/\b∉X.fs/\(b∈X.ex\/X.s₀.heap.objs.size<=b)/\(∀ x c,X.env.cells.lookup x=some c->c≠b)/\∀ p∈X.pn++pins,p.1≠b
theorem Inv.gZ {X:Cx} {pins:List (Addr×Obj)} {σ:St} {H H':Hp} {s:Δ} {b:Addr} (I:Inv X pins σ H s) (hb:s.heap.objs.size<=b) (hn:H' b=none):X0 X pins H' b:=by
 refine ⟨hn,Nat.ne_of_gt (τ I.lt hb),I.M9 hb,.inr (Ο I.sz hb),λx c e z=>?_,λp hp z=>?_⟩
 ·obtain ⟨v,q⟩:=I.cell x c e
  exact absurd (τ q.lt (by rw [z];exact hb)) (ce _)
 ·exact absurd (τ (Ψ (I.pin p hp).1) (by rw [z];exact hb)) (ce _)
structure Turn (P:ζ) (w:ν) (K:Ι) (tg:Expr) (J:It) (fp:List Addr) (it:Addr) (tn:Nat->Heap->Prop):Prop where
 mem:it∈fp
 obj:∀ i h,tn i h->∀ b∈fp,∃ o,h.get? b=some o/\∀ v,o.data ≠ .cell v
 keep:∀ i h h',tn i h->(∀ b∈fp,∀ o,h.get? b=some o->h'.get? b=some o)->tn i h'
 item:∀ (X:Cx),X.prog=P->X.w=w->X.K=K->X.calm=true->∀ (i:Nat) (pins:List (Addr×Obj)) (s:Δ) (σ:St) (H:Hp) (E:Α->Δ->Prop),Inv X pins σ H s->(∀ b∈fp,X0 X pins H b)->tn i s.heap->J.go i H ->
  Χ (Ω P w) X.A (pyNext (.ref it)) (λr s1=>∃ u,r=some u /\
   Χ (Ω P w) X.A (eR tg (.ref it) u) (λ_ s2=>∃ x H',Inv X pins σ H' s2/\YD x u/\J.iB i H x H'/\tn (i+1) s2.heap/\∀ b∈fp,H' b=none) E s1) E s
 done:∀ (X:Cx),X.prog=P->X.w=w->X.K=K->X.calm=true->∀ (i:Nat) (pins:List (Addr×Obj)) (s:Δ) (σ:St) (H:Hp) (E:Α->Δ->Prop),Inv X pins σ H s->(∀ b∈fp,X0 X pins H b)->tn i s.heap->J.stop i H ->
  Χ (Ω P w) X.A (pyNext (.ref it)) (λr s1=>r=none/\Inv X pins σ H s1) E s
 self:∀ (A:ag) (i:Nat) (s:Δ) (Q:Α->Δ->Prop) (E:Α->Δ->Prop),tn i s.heap->Q (.ref it) s->Χ (Ω P w) A (pyIter (.ref it)) Q E s
abbrev TI:=St->Hp->(It->Hp->Prop)->Prop
def PIE (X:Cx) (pins:List (Addr×Obj)) (σ:St) (tg:Expr) (R:It->Hp->Prop) (itv:Α) (s2:Δ):Prop :=
 ∃ (it:Addr) (fp:List Addr) (tn:Nat->Heap->Prop) (J:It) (H':Hp),itv = .ref it/\Inv X pins σ H' s2/\Turn X.prog X.w X.K tg J fp it tn/\tn 0 s2.heap/\(∀ b∈fp,X0 X pins H' b)/\R J H'
def PI (X:Cx) (tg iter:Expr) (wi:TI):Prop :=
 ∀ (pins:List (Addr×Obj)) (s:Δ) (σ:St) (H:Hp) (R:It->Hp->Prop),Inv X pins σ H s->wi σ H R ->
  Χ (Ω X.prog X.w) X.A (eval iter X.env) (λv s1=>Χ (Ω X.prog X.w) X.A (pyIter v) (PIE X pins σ tg R) X.xe s1) X.xe s
theorem UT {M:Model} {A:ag} {E:Α->Δ->Prop} {s:Δ} {tg:Expr} {it:Addr} {u:Α} {o:Obj} {n:String} {vs:Array Α} {Q:Unit->Δ->Prop} (ho:s.heap.get? it=some o) (hc:o.cls = .type n) (hd:o.data = .fields vs)
  (hn:["enumerate","zip","dict_itemiterator","dict_reverseitemiterator","odict_iterator","itertools.zip_longest","itertools.pairwise"].contains n=false) (hQ:Q () s):Χ M A (eR tg (.ref it) u) Q E s:=by
 unfold eR
 cases tg<;>first
  | exact Ν hQ
  | (cases u<;>first
    | exact Ν hQ
    | (refine Θ (wpAny_load ho ?_)
       rw [hc,hd]
       show Χ M A (if (["enumerate","zip","dict_itemiterator","dict_reverseitemiterator","odict_iterator","itertools.zip_longest","itertools.pairwise"].contains n&&vs[0]?==some (rawInt _))=true then _ else _) Q E s
       rw [if_neg (by intro h;rw [hn,Bool.false_and] at h;cases h)];exact Ν hQ))
def lF (K:Ι) (a:Addr):It :=
 ⟨λi H=>∃ xs x,ao K H a xs/\xs[i]?=some x,λi H x H'=>H'=H/\∀ xs,ao K H a xs->xs[i]?=some x,λi H=>∃ xs,ao K H a xs/\xs.length<=i⟩
def lG (K:Ι) (a:Addr):It :=
 ⟨λi H=>∃ xs x,aH K H a xs/\xs[i]?=some x,λi H x H'=>H'=H/\∀ xs,aH K H a xs->xs[i]?=some x,λi H=>∃ xs,aH K H a xs/\xs.length<=i⟩
def iC (lo:Int) (n:Nat):It:=⟨λi _=>i<n,λi H x H'=>H'=H/\x = .int (lo+i),λi _=>n<=i⟩
theorem O6 {P:ζ} {w:ν} {K:Ι} {tg:Expr} (a it:Addr):Turn P w K tg (lF K a) [it] it (λi h=>h.IsListIter it a i) where
 mem:=by simp
 obj:=λi h st b hb=>by
  have e:b=it:=by simpa using hb
  subst e;obtain ⟨o,e,c,d⟩:=st;exact ⟨o,e,λv z=>by rw [d] at z;cases z⟩
 keep:=λi h h' st k=>st.at λo e=>k it (by simp) o e
 item:=by
  intro X hP hw hK hc i pins s σ H E I hf st hg;subst hP hw hK;obtain ⟨xs,x,hq,hx⟩:=hg;obtain ⟨its,rv,p,hz⟩:=I.list hq;obtain ⟨u,hu,ru⟩:=rv.get hx;obtain ⟨f0,f1,f2,f3,f4,f5⟩:=hf it (by simp);refine wpAny_pyNext_list_item st p.isList (x:=u) (by simpa using hu) λh' st' sb=>?_
  have I1:Inv X pins σ H { s with heap:=h' }:=I.turned (t':=s.toks) (λb o hb e=>(sb.2 b hb).trans e) f0 f1 f3 f4 f5;obtain ⟨o,e,c,d⟩:=id st';exact ⟨u,rfl,UT (s:={ s with heap:=h' }) e c d (by decide) ⟨x,H,I1,ru,⟨rfl,λys hy=>by rw [I.jK hy hq];exact hx⟩,st',λb hb=>(hf b hb).1⟩⟩
 done:=by
  intro X hP hw hK hc i pins s σ H E I hf st hg;subst hP hw hK;obtain ⟨xs,hq,hx⟩:=hg;obtain ⟨its,rv,p,hz⟩:=I.list hq;obtain ⟨f0,f1,f2,f3,f4,f5⟩:=hf it (by simp);have hl:=rv.length;exact wpAny_pyNext_list_end (I.ok.hd hc) st p.isList (by simp;omega) λh' eb=>⟨rfl,I.turned (t':=s.toks) (λb o hb e=>eb b o hb e) f0 f1 f3 f4 f5⟩
 self:=λ_ _ _ _ _ st h=>wpAny_pyIter_listiter st h
theorem O7 {P:ζ} {w:ν} {K:Ι} {tg:Expr} (a it:Addr):Turn P w K tg (lG K a) [it] it (λi h=>h.IsTupleIter it a i) where
 mem:=by simp
 obj:=λi h st b hb=>by
  have e:b=it:=by simpa using hb
  subst e;obtain ⟨o,e,c,d⟩:=st;exact ⟨o,e,λv z=>by rw [d] at z;cases z⟩
 keep:=λi h h' st k=>st.at λo e=>k it (by simp) o e
 item:=by
  intro X hP hw hK hc i pins s σ H E I hf st hg;subst hP hw hK;obtain ⟨xs,x,hq,hx⟩:=hg;obtain ⟨its,rv,p,hz⟩:=I.tuple hq;obtain ⟨u,hu,ru⟩:=rv.get hx;obtain ⟨f0,f1,f2,f3,f4,f5⟩:=hf it (by simp);refine wpAny_pyNext_tuple_item st (show s.heap.IsTuple a its.toArray from p) (x:=u) (by simpa using hu) λh' st' sb=>?_
  have I1:Inv X pins σ H { s with heap:=h' }:=I.turned (t':=s.toks) (λb o hb e=>(sb.2 b hb).trans e) f0 f1 f3 f4 f5;obtain ⟨o,e,c,d⟩:=id st';exact ⟨u,rfl,UT (s:={ s with heap:=h' }) e c d (by decide) ⟨x,H,I1,ru,⟨rfl,λys hy=>by rw [I.oJ hy hq];exact hx⟩,st',λb hb=>(hf b hb).1⟩⟩
 done:=by
  intro X hP hw hK hc i pins s σ H E I hf st hg;subst hP hw hK;obtain ⟨xs,hq,hx⟩:=hg;obtain ⟨its,rv,p,hz⟩:=I.tuple hq;obtain ⟨f0,f1,f2,f3,f4,f5⟩:=hf it (by simp);have hl:=rv.length;exact wpAny_pyNext_tuple_end (I.ok.hd hc) st (show s.heap.IsTuple a its.toArray from p) (by simp;omega) λh' eb=>⟨rfl,I.turned (t':=s.toks) (λb o hb e=>eb b o hb e) f0 f1 f3 f4 f5⟩
 self:=λ_ _ _ _ _ st h=>wpAny_pyIter_tupleiter st h
theorem O8 {P:ζ} {w:ν} {K:Ι} {tg:Expr} (it:Addr) (lo:Int) (n:Nat):Turn P w K tg (iC lo n) [it] it (λi h=>IsRangeIter h it (lo+(i:Nat)*1) ((n:Int) - (i:Nat)) 1) where
 mem:=by simp
 obj:=λi h st b hb=>by
  have e:b=it:=by simpa using hb
  subst e;exact ⟨_,st,λv z=>by
   have z':Data.fields _=Data.cell v:=z
   cases z'⟩
 keep:=λi h h' st k=>k it (by simp) _ st
 item:=by
  intro X hP hw hK hc i pins s σ H E I hf st hg;subst hP hw hK;obtain ⟨f0,f1,f2,f3,f4,f5⟩:=hf it (by simp);have W:=Walks.range (prog:=X.prog) (w:=X.w) (I.ok.hd hc) it lo 1 n;refine W.item i s _ _ hg st λv h' tk hv st' kk=>?_
  obtain ⟨t,rfl⟩:=hv;have I1:Inv X pins σ H { s with heap:=h',toks:=tk }:=I.turned (λb o hb e=>kk b o (by simpa using hb) e) f0 f1 f3 f4 f5;refine ⟨_,rfl,UT (s:={ s with heap:=h',toks:=tk }) (n:="range_iterator") st' rfl rfl (by decide) ⟨.int (lo+i),H,I1,⟨t,?_⟩,⟨rfl,rfl⟩,st',λb hb=>(hf b hb).1⟩⟩;rw [Int.mul_one]
 done:=by
  intro X hP hw hK hc i pins s σ H E I hf st hg;subst hP hw hK;obtain ⟨f0,f1,f2,f3,f4,f5⟩:=hf it (by simp);exact wpAny_pyNext_range_end (I.ok.hd hc) st (by have:n<=i:=hg;omega) λh' eb=>⟨rfl,I.turned (t':=s.toks) (λb o hb e=>eb b o hb e) f0 f1 f3 f4 f5⟩
 self:=λ_ _ _ _ _ st h=>wpAny_pyIter_rangeiter st h
section
variable {X:Cx} {tg:Expr}
def Wb (K:Ι) (tl:TE):TI:=λσ H R=>tl σ H λx H1=>∃ a,x = .ref a/\(∃ xs,ao K H1 a xs)/\R (lF K a) H1
def rm (K:Ι) (tl:TE):TI:=λσ H R=>tl σ H λx H1=>∃ a,x = .ref a/\(∃ xs,aH K H1 a xs)/\R (lG K a) H1
theorem Xc {l:Expr} {tl:TE} (hl:PE X l tl):PI X tg l (Wb X.K tl):=by
 intro pins s σ H R I h;refine aA (hl pins s σ H _ I h) λv s1 ⟨x,H1,I1,r1,q1⟩=>?_
 obtain ⟨a,e,⟨xs,hq⟩,q⟩:=q1;subst e
 cases r1
 obtain ⟨its,rv,p,hz⟩:=I1.list hq;refine wpAny_pyIter_list p.isList ?_;refine ⟨s1.heap.objs.size,[s1.heap.objs.size],_,_,H1,rfl,I1.kept (t':=s1.toks) λb o e=>Ρ _ e,O6 a _,⟨_,ah _ rfl,rfl,rfl⟩,λb hb=>?_,q⟩;have e:b=s1.heap.objs.size:=by simpa using hb
 subst e;exact I1.gZ (Κ _) (I1.hok.fresh (Κ _))
theorem UU {l:Expr} {tl:TE} (hl:PE X l tl):PI X tg l (rm X.K tl):=by
 intro pins s σ H R I h;refine aA (hl pins s σ H _ I h) λv s1 ⟨x,H1,I1,r1,q1⟩=>?_
 obtain ⟨a,e,⟨xs,hq⟩,q⟩:=q1;subst e
 cases r1
 obtain ⟨its,rv,p,hz⟩:=I1.tuple hq;refine wpAny_pyIter_tuple (show s1.heap.IsTuple a its.toArray from p) ?_;refine ⟨s1.heap.objs.size,[s1.heap.objs.size],_,_,H1,rfl,I1.kept (t':=s1.toks) λb o e=>Ρ _ e,O7 a _,⟨_,ah _ rfl,rfl,rfl⟩,λb hb=>?_,q⟩;have e:b=s1.heap.objs.size:=by simpa using hb
 subst e;exact I1.gZ (Κ _) (I1.hok.fresh (Κ _))
theorem DQ {pins:List (Addr×Obj)} {σ:St} {H:Hp} {s:Δ} {R:It->Hp->Prop} {E:Α->Δ->Prop} {lo hi:Int} {t u v:Tok} {tk:Nat} (I:Inv X pins σ H s) (h1 : -(2^62)<=lo) (h2:lo<2^62) (h3 : -(2^62)<=hi) (h4:hi<2^62)
  (q:R (iC lo (hi - lo).toNat) H):Χ (Ω X.prog X.w) X.A (pyIter (.ref s.heap.objs.size)) (PIE X pins σ tg R) E { s with heap:=s.heap.push { cls := .type "range",data := .fields #[.int lo t,.int hi u,.int 1 v] },toks:=tk }:=by
 refine wpAny_pyIter_range (IsRange.new ..) (small_one h1 h2 h3 h4) ?_;have I1:Inv X pins σ H { s with heap:=s.heap.push { cls := .type "range",data := .fields #[.int lo t,.int hi u,.int 1 v] },toks:=tk }:=I.kept λb o e=>Ρ _ e
 refine ⟨(s.heap.push { cls := .type "range",data := .fields #[.int lo t,.int hi u,.int 1 v] }).objs.size,[(s.heap.push { cls := .type "range",data := .fields #[.int lo t,.int hi u,.int 1 v] }).objs.size],_,_,H,rfl,
  I1.kept (t':=tk) λb o e=>Ρ _ e,O8 _ lo (hi - lo).toNat,?_,λb hb=>?_,q⟩
 ·have e1:lo+((0:Nat):Int)*1=lo:=by simp
  have e2:(((hi - lo).toNat:Nat):Int) - ((0:Nat):Int)=df lo hi 1:=by rw [rangeSize_one];split<;>omega
  show IsRangeIter _ _ (lo+((0:Nat):Int)*1) ((((hi - lo).toNat:Nat):Int) - ((0:Nat):Int)) 1
  rw [e1,e2];exact ah _ rfl
 ·have e:b=(s.heap.push { cls := .type "range",data := .fields #[.int lo t,.int hi u,.int 1 v] }).objs.size:=by simpa using hb
  subst e;exact I1.gZ (Κ _) (I1.hok.fresh (Κ _))
def Uk (ta:TA):TI:=λσ H R=>ta σ H λvs H1=>∃ j:Int,vs=[.int j] /\ -(2^62)<=j/\j<2^62/\R (iC 0 j.toNat) H1
def DR (ta:TA):TI:=λσ H R=>ta σ H λvs H1=>∃ i j:Int,vs=[.int i,.int j]/\(-(2^62)<=i/\i<2^62 /\ -(2^62)<=j/\j<2^62)/\R (iC i (j - i).toNat) H1
theorem Y7 {a:Expr} {ta:TA} {p pos:Pos} (hg:Gl X "range") (hm:X.mg "range"=none) (ha:PA X [a] ta) (hs:θ [a] X.env=[(false,eval a X.env)]:=by rfl):PI X tg (.Call (.Name "range" p) [a] [] pos) (Uk ta):=by
 intro pins s σ H R I h;refine Call_ (WV I hg hm boot_range (b8 (aA (ha pos pins s σ H _ I h) λus s1 ⟨vs,H1,I1,r1,q1⟩=>?_) hs rfl));obtain ⟨j,e,q1,q2,q⟩:=q1;subst e
 cases r1 with
 | cons r rr =>
  cases rr
  obtain ⟨t,rfl⟩:=r;exact call_range_1 (DQ I1 (by omega) (by omega) q1 q2 (by simpa using q))
theorem O9 {a b:Expr} {ta:TA} {p pos:Pos} (hg:Gl X "range") (hm:X.mg "range"=none) (ha:PA X [a,b] ta) (hs:θ [a,b] X.env=[(false,eval a X.env),(false,eval b X.env)]) (hs2:θ [b] X.env=[(false,eval b X.env)]) :
  PI X tg (.Call (.Name "range" p) [a,b] [] pos) (DR ta):=by
 intro pins s σ H R I h;refine Call_ (WV I hg hm boot_range (b8 (aA (ha pos pins s σ H _ I h) λus s1 ⟨vs,H1,I1,r1,q1⟩=>?_) (by rw [hs,hs2]) (by rw [hs2];rfl)));obtain ⟨i,j,e,⟨q1,q2,q3,q4⟩,q⟩:=q1;subst e
 cases r1 with
 | cons r rr =>
  cases rr with
  | cons r' rr =>
   cases rr
   obtain ⟨t,rfl⟩:=r;obtain ⟨t',rfl⟩:=r';exact call_range_2 (DQ I1 q1 q2 q3 q4 q)
def WJ (wi:TI) (g:TG) (tb:TS):TS:=λD σ H=>wi σ H λJ H1=>∃ W:Nat->Nat->St->Hp->Prop,(∃ m,W 0 m σ H1)/\∀ i m σ H,W i m σ H ->
 (J.stop i H/\D.nx σ H)\/(J.go i H/\∃ N:St->Hp->Prop,(∀ σ' H',N σ' H'->∃ m',m'<m/\W (i+1) m' σ' H')/\∀ x H',J.iB i H x H'->g x σ H' λσ2 H2=>tb { D with nx:=N,ct:=N,bk:=D.nx } σ2 H2)
def Vj (fp:List Addr) (h:Heap):List (Addr×Obj):=fp.filterMap λb=>(h.get? b).map λo=>(b,o)
theorem XH {fp:List Addr} {h:Heap} {b:Addr} {o:Obj} (hb:b∈fp) (e:h.get? b=some o):(b,o)∈Vj fp h:=List.mem_filterMap.mpr ⟨b,hb,by rw [e];rfl⟩
theorem Pa {fp:List Addr} {h:Heap} {p:Addr×Obj} (hp:p∈Vj fp h):p.1∈fp/\h.get? p.1=some p.2:=by
 obtain ⟨b,hb,e⟩:=List.mem_filterMap.mp hp
 cases q:h.get? b with
 | none=>rw [q] at e;cases e
 | some o =>
  rw [q] at e
  have e':(b,o)=p:=Γ e;subst e';exact ⟨hb,q⟩
theorem Inv.pinned {pins:List (Addr×Obj)} {σ:St} {H:Hp} {s:Δ} {fp:List Addr} (I:Inv X pins σ H s) (hf:∀ b∈fp,X0 X pins H b) (ho:∀ b∈fp,∃ o,s.heap.get? b=some o/\∀ v,o.data ≠ .cell v):Inv X (pins++Vj fp s.heap) σ H s :=
 I.lE λp hp=>(bg.mp hp).elim (λz=>I.pin p (ψ _ z)) λz=>by
  obtain ⟨hb,e⟩:=Pa z;obtain ⟨f0,f1,f2,_⟩:=hf p.1 hb;obtain ⟨o,e',d⟩:=ho p.1 hb;rw [e] at e';cases e'
  exact ⟨e,f0,f1,f2,d⟩
theorem Inv.cX {pins pl:List (Addr×Obj)} {σ:St} {H:Hp} {s:Δ} (I:Inv X (pins++pl) σ H s):Inv X pins σ H s:=I.lE λp hp=>I.pin p (ψ _ (fF _ hp))
theorem Xp {iter:Expr} {body:List Stmt} {wi:TI} {g:TG} {tb:TS} {pos:Pos} (hp:PassesOwn (Ω X.prog X.w) X.A X.env X.xe) (hc:X.calm=true) (hi:PI X tg iter wi) (hg:PG X tg g) (hb:eF X body tb)
  (hs:∀ x,gy iter X.env x=pure x:=by intro _;rfl):PS X (.For tg iter body [] pos) (WJ wi g tb):=by
 intro pins s σ H D I h;refine wpAny_For (aA (hi pins s σ H _ I h) λv s1 h1=>aA h1 λitv s2 h2=>?_) hs;obtain ⟨it,fp,tn,J,H2,e,I2,T,st2,f2,W,⟨m0,w0⟩,turn⟩:=h2;subst e
 -- what stays true of the iterator's objects through the loop
 have stat:∀ {H':Hp},(∀ b∈fp,H' b=none)->∀ b∈fp,X0 X pins H' b:=λhn b hb=>⟨hn b hb,(f2 b hb).2⟩
 refine codeAny_forLoop_any (λn s'=>∃ i σ' H',Inv X pins σ' H' s'/\tn i s'.heap/\(∀ b∈fp,H' b=none)/\W i n σ' H') ?_ m0 ⟨0,σ,H2,I2,st2,λb hb=>(f2 b hb).1,w0⟩;rintro n s3 ⟨i,σ3,H3,I3,st3,tD,w3⟩;rcases turn i n σ3 H3 w3 with ⟨stop,qn⟩ | ⟨go,N,hN,step⟩
 ·refine dE hp (aA (T.done X rfl rfl rfl hc i pins s3 σ3 H3 X.xe I3 (stat tD) st3 stop) λr s4 ⟨hr,I4⟩=>?_)
  subst hr;exact ii ⟨σ3,H3,I4,qn⟩
 ·refine dE hp (aA (T.item X rfl rfl rfl hc i pins s3 σ3 H3 X.xe I3 (stat tD) st3 go) λr s4 ⟨u,hr,h4⟩=>?_)
  subst hr;refine dE hp (aA h4 λ_ s5 ⟨x,H5,I5,r5,y5,iD,jO⟩=>?_);have Pb:=I5.pinned (stat jO) (T.obj _ _ iD);refine dE hp (aA (hg _ s5 σ3 H5 x u _ Pb r5 (step x H5 y5)) λ_ s6 ⟨Pg,H6,I6,q6⟩=>?_);refine dE hp (aA (hb _ s6 Pg H6 _ I6 q6) λf s7 q7=>?_);have again:∀ {eV:St} {H7:Hp},Inv X (pins++Vj fp s5.heap) eV H7 s7->N eV H7->∃ m,m<n/\∃ i σ' H',Inv X pins σ' H' s7/\tn i s7.heap/\(∀ b∈fp,H' b=none)/\W i m σ' H':=λ{eV H7} I7 n7=>by
   obtain ⟨m',hm,w7⟩:=hN eV H7 n7;refine ⟨m',hm,i+1,eV,H7,I7.cX,T.keep _ _ _ iD λb hb o e=>(I7.pin (b,o) (ψ _ (ψ _ (XH hb e)))).1,λb hb=>?_,w7⟩;obtain ⟨o,e,d⟩:=T.obj _ _ iD b hb;exact (I7.pin (b,o) (ψ _ (ψ _ (XH hb e)))).2.1
  cases f with
  | next=>obtain ⟨eV,H7,I7,n7⟩:=q7;exact again I7 n7
  | cont=>obtain ⟨eV,H7,I7,n7⟩:=q7;exact again I7 n7
  | brk=>obtain ⟨eV,H7,I7,q7⟩:=q7;exact ⟨eV,H7,I7.cX,q7⟩
  | ret v=>obtain ⟨x7,eV,H7,I7,r7,q7⟩:=q7;exact ⟨x7,eV,H7,I7.cX,r7,q7⟩
end
theorem UD {K:Ι} {a:Addr} {xs:List V} {g:TG} {tb:TS} {D:Ends} {σ:St} {H:Hp} (Pv:Nat->St->Hp->Prop) (h0:Pv 0 σ H) (hl:∀ i σ H,i<=xs.length->Pv i σ H->ao K H a xs)
  (hs:∀ i x σ H,xs[i]?=some x->Pv i σ H->g x σ H λσ2 H2=>tb { D with nx:=Pv (i+1),ct:=Pv (i+1),bk:=D.nx } σ2 H2) (hd:∀ σ H,Pv xs.length σ H->D.nx σ H) :
  ∃ W:Nat->Nat->St->Hp->Prop,(∃ m,W 0 m σ H)/\∀ i m σ H,W i m σ H ->
   ((lF K a).stop i H/\D.nx σ H)\/((lF K a).go i H/\∃ N:St->Hp->Prop,(∀ σ' H',N σ' H'->∃ m',m'<m/\W (i+1) m' σ' H')/\∀ x H',(lF K a).iB i H x H'->g x σ H' λσ2 H2=>tb { D with nx:=N,ct:=N,bk:=D.nx } σ2 H2):=by
 refine ⟨λi m σ H=>m=xs.length - i/\i<=xs.length/\Pv i σ H,⟨xs.length,by simp,ι _,h0⟩,?_⟩;rintro i m σ H ⟨rfl,hi,p⟩;have q:=hl i σ H hi p;by_cases hlt:i<xs.length
 ·refine .inr ⟨⟨xs,xs[i],q,by simp [hlt]⟩,Pv (i+1),λσ' H' p'=>⟨xs.length - (i+1),by omega,rfl,hlt,p'⟩,λx H' y=>?_⟩
  obtain ⟨e,y⟩:=y;subst e;exact hs i x σ _ (y xs q) p
 ·have e:i=xs.length:=by omega
  subst e;exact .inl ⟨⟨xs,q,Κ _⟩,hd σ H p⟩
theorem Ph {K:Ι} {a:Addr} {xs:List V} {g:TG} {tb:TS} {D:Ends} {σ:St} {H:Hp} (Pv:Nat->St->Hp->Prop) (h0:Pv 0 σ H) (hl:∀ i σ H,i<=xs.length->Pv i σ H->aH K H a xs)
  (hs:∀ i x σ H,xs[i]?=some x->Pv i σ H->g x σ H λσ2 H2=>tb { D with nx:=Pv (i+1),ct:=Pv (i+1),bk:=D.nx } σ2 H2) (hd:∀ σ H,Pv xs.length σ H->D.nx σ H) :
  ∃ W:Nat->Nat->St->Hp->Prop,(∃ m,W 0 m σ H)/\∀ i m σ H,W i m σ H ->
   ((lG K a).stop i H/\D.nx σ H)\/((lG K a).go i H/\∃ N:St->Hp->Prop,(∀ σ' H',N σ' H'->∃ m',m'<m/\W (i+1) m' σ' H')/\∀ x H',(lG K a).iB i H x H'->g x σ H' λσ2 H2=>tb { D with nx:=N,ct:=N,bk:=D.nx } σ2 H2):=by
 refine ⟨λi m σ H=>m=xs.length - i/\i<=xs.length/\Pv i σ H,⟨xs.length,by simp,ι _,h0⟩,?_⟩;rintro i m σ H ⟨rfl,hi,p⟩;have q:=hl i σ H hi p;by_cases hlt:i<xs.length
 ·refine .inr ⟨⟨xs,xs[i],q,by simp [hlt]⟩,Pv (i+1),λσ' H' p'=>⟨xs.length - (i+1),by omega,rfl,hlt,p'⟩,λx H' y=>?_⟩
  obtain ⟨e,y⟩:=y;subst e;exact hs i x σ _ (y xs q) p
 ·have e:i=xs.length:=by omega
  subst e;exact .inl ⟨⟨xs,q,Κ _⟩,hd σ H p⟩
theorem Pj {lo:Int} {n:Nat} {g:TG} {tb:TS} {D:Ends} {σ:St} {H:Hp} (Pv:Nat->St->Hp->Prop) (h0:Pv 0 σ H)
  (hs:∀ i σ H,i<n->Pv i σ H->g (.int (lo+i)) σ H λσ2 H2=>tb { D with nx:=Pv (i+1),ct:=Pv (i+1),bk:=D.nx } σ2 H2) (hd:∀ σ H,Pv n σ H->D.nx σ H) :
  ∃ W:Nat->Nat->St->Hp->Prop,(∃ m,W 0 m σ H)/\∀ i m σ H,W i m σ H ->
   ((iC lo n).stop i H/\D.nx σ H)\/((iC lo n).go i H/\∃ N:St->Hp->Prop,(∀ σ' H',N σ' H'->∃ m',m'<m/\W (i+1) m' σ' H')/\∀ x H',(iC lo n).iB i H x H'->g x σ H' λσ2 H2=>tb { D with nx:=N,ct:=N,bk:=D.nx } σ2 H2):=by
 refine ⟨λi m σ H=>m=n - i/\i<=n/\Pv i σ H,⟨n,by simp,ι _,h0⟩,?_⟩;rintro i m σ H ⟨rfl,hi,p⟩;by_cases hlt:i<n
 ·refine .inr ⟨hlt,Pv (i+1),λσ' H' p'=>⟨n - (i+1),by omega,rfl,hlt,p'⟩,λx H' y=>?_⟩
  obtain ⟨e,y⟩:=y;subst e y;exact hs i σ _ hlt p
 ·have e:i=n:=by omega
  subst e;exact .inl ⟨Κ _,hd σ H p⟩
abbrev R2:=V->V->Hp->VK->Prop
def bG (X:Cx) (f:Α->Α->Sem Α) (r:R2):Prop :=
 ∀ (pins:List (Addr×Obj)) (s:Δ) (σ:St) (H:Hp) (x y:V) (v u:Α) (Q:VK),Inv X pins σ H s->YD x v->YD y u->r x y H Q ->
  Χ (Ω X.prog X.w) X.A (f v u) (EP X pins σ Q) X.xe s
def vM (X:Cx) (f:Α->Sem Α) (r:V->Hp->VK->Prop):Prop :=
 ∀ (pins:List (Addr×Obj)) (s:Δ) (σ:St) (H:Hp) (x:V) (v:Α) (Q:VK),Inv X pins σ H s->YD x v->r x H Q ->
  Χ (Ω X.prog X.w) X.A (f v) (EP X pins σ Q) X.xe s
def XI (X:Cx) (f:Α) (r:List V->Hp->VK->Prop):Prop :=
 ∀ (pins:List (Addr×Obj)) (s:Δ) (σ:St) (H:Hp) (xs:List V) (us:List Α) (Q:VK),Inv X pins σ H s->Yt xs us->r xs H Q ->
  Χ (Ω X.prog X.w) X.A (call f us) (EP X pins σ Q) X.xe s
def lH (r:R2) (ta tb:TE):TE:=λσ H Q=>ta σ H λx H1=>tb σ H1 λy H2=>r x y H2 Q
def vN (r:V->Hp->VK->Prop) (ta:TE):TE:=λσ H Q=>ta σ H λx H1=>r x H1 Q
def rI (C:Int->Int->Prop) (g:Int->Int->V):R2:=λx y H Q=>kI x λi=>kI y λj=>C i j/\Q (g i j) H
def gJ (g:Int->Int->V):R2:=λx y H Q=>kI x λi=>kI y λj=>Q (g i j) H
def rU (g:Int->V):V->Hp->VK->Prop:=λx H Q=>kI x λi=>Q (g i) H
section
variable {X:Cx} {a b c:Expr} {ta tb tc:TE} {pos:Pos}
theorem rz (ha:PE X a ta) (hb:PE X b tb) {pins:List (Addr×Obj)} {s:Δ} {σ:St} {H:Hp} {R:V->V->Hp->Prop} (I:Inv X pins σ H s)
  (h:ta σ H λx H1=>tb σ H1 λy H2=>R x y H2) {Q:Α->Δ->Prop} {f:Α->Α->Sem Α}
  (hf:∀ v u s2 x y H2,Inv X pins σ H2 s2->YD x v->YD y u->R x y H2->Χ (Ω X.prog X.w) X.A (f v u) Q X.xe s2) :
  Χ (Ω X.prog X.w) X.A (eval a X.env) (λv s₁=>Χ (Ω X.prog X.w) X.A (eval b X.env) (λu s₂=>Χ (Ω X.prog X.w) X.A (f v u) Q X.xe s₂) X.xe s₁) X.xe s:=by
 refine aA (ha pins s σ H _ I h) λv s1 ⟨x,H1,I1,r1,q1⟩=>?_
 refine aA (hb pins s1 σ H1 _ I1 q1) λu s2 ⟨y,H2,I2,r2,q2⟩=>?_
 exact hf v u s2 x y H2 I2 r1 r2 q2
theorem Yl {op:Operator} {r:R2} (ho:bG X (cw op) r) (ha:PE X a ta) (hb:PE X b tb):PE X (.BinOp a op b pos) (lH r ta tb):=by
 intro pins s σ H Q I h;exact wpAny_BinOp (rz ha hb I h λv u s2 x y H2 I2 rx ry q=>ho pins s2 σ H2 x y v u Q I2 rx ry q)
theorem Ul {op:UnaryOp} {r:V->Hp->VK->Prop} (ho:vM X (unaryOp op) r) (ha:PE X a ta):PE X (.UnaryOp op a pos) (vN r ta):=by
 intro pins s σ H Q I h;exact UnaryOp_ (aA (ha pins s σ H _ I h) λv s1 ⟨x,H1,I1,r1,q1⟩=>ho pins s1 σ H1 x v Q I1 r1 q1)
theorem lJ {f:Α->Α->Sem Α} {C:Int->Int->Prop} {g:Int->Int->Int}
  (rule:∀ (i j:Int) (t u:Tok) (s:Δ) (Q:Α->Δ->Prop) (E:Α->Δ->Prop),C i j->Q (.int (g i j) s.toks) { s with toks:=s.toks+1 }->Χ (Ω X.prog X.w) X.A (f (.int i t) (.int j u)) Q E s) :
  bG X f (rI C λi j => .int (g i j)):=by
 intro pins s σ H x y v u Q I rx ry h
 replace h:=jN h
 obtain ⟨i,j,rfl,rfl,hc,q⟩:=h;obtain ⟨t,rfl⟩:=rx;obtain ⟨t',rfl⟩:=ry;exact rule i j t t' s _ _ hc ⟨.int (g i j),H,I.tok _,⟨_,rfl⟩,q⟩
theorem vO {f:Α->Α->Sem Α} {g:Int->Int->Int}
  (rule:∀ (i j:Int) (t u:Tok) (s:Δ) (Q:Α->Δ->Prop) (E:Α->Δ->Prop),Q (.int (g i j) s.toks) { s with toks:=s.toks+1 }->Χ (Ω X.prog X.w) X.A (f (.int i t) (.int j u)) Q E s) :
  bG X f (gJ λi j => .int (g i j)):=by
 intro pins s σ H x y v u Q I rx ry h
 replace h:=jN h
 obtain ⟨i,j,rfl,rfl,q⟩:=h;obtain ⟨t,rfl⟩:=rx;obtain ⟨t',rfl⟩:=ry;exact rule i j t t' s _ _ ⟨.int (g i j),H,I.tok _,⟨_,rfl⟩,q⟩
theorem tE {f:Α->Α->Sem Α} {g:Int->Int->Bool}
  (rule:∀ (i j:Int) (t u:Tok) (s:Δ) (Q:Α->Δ->Prop) (E:Α->Δ->Prop),Q (.bool (g i j)) s->Χ (Ω X.prog X.w) X.A (f (.int i t) (.int j u)) Q E s) :
  bG X f (gJ λi j => .bl (g i j)):=by
 intro pins s σ H x y v u Q I rx ry h
 replace h:=jN h
 obtain ⟨i,j,rfl,rfl,q⟩:=h;obtain ⟨t,rfl⟩:=rx;obtain ⟨t',rfl⟩:=ry;exact rule i j t t' s _ _ ⟨.bl (g i j),H,I,rfl,q⟩
def rA (i j:Int):Prop:=0<=j/\j<=1000000/\i.natAbs<2^64
def rB (i j:Int):Prop:=(-(2^64)<i/\i<2^64)\/(-(2^64)<j/\j<2^64)
theorem rB.ok {i j:Int} (h:rB i j):IntMulOk i j:=by
 rcases h with ⟨h1,h2⟩ | ⟨h1,h2⟩
 ·exact .of_left (intBits_le_64 h1 h2)
 ·exact .of_right (intBits_le_64 h1 h2)
theorem Pk (k:Nat):(0:Int)<=2^k:=by
 rw [two_pow_cast];exact fc _
theorem YW:bG X (cw .Add) (gJ λi j => .int (i+j)):=vO λ_ _ _ _ _ _ _ q=>add_int q
theorem Y2:bG X (cw .Sub) (gJ λi j => .int (i - j)):=vO λ_ _ _ _ _ _ _ q=>sub_int q
theorem Xg:bG X (cw .Mod) (rI (λ_ j=>0<j) λi j => .int (i%j)):=lJ λi j _ _ _ _ _ hc q=>by
 have h1:(0:Int)<j:=hc;exact mod_int' (by omega) (by rw [Int.fmod_eq_emod_of_nonneg i (by omega)];exact q)
theorem DW:bG X (cw .Pow) (rI rA λi j => .int (i^j.toNat)):=lJ λ_ _ _ _ _ _ _ hc q=>pow_int_small hc.1 hc.2.1 hc.2.2 q
theorem DX:bG X (cw .LShift) (rI rA λi j => .int (i*2^j.toNat)):=lJ λ_ _ _ _ _ _ _ hc q=>lshift_int_small hc.1 hc.2.1 hc.2.2 q
theorem Pn:bG X (cw .RShift) (rI (λ_ j=>0<=j) λi j => .int (i / 2^j.toNat)):=lJ λi j _ _ _ _ _ hc q =>
 rshift_int hc (by rw [Int.fdiv_eq_ediv_of_nonneg i (Pk _)];exact q)
theorem Pq {f:Α->Sem Α} {g:Int->Int}
  (rule:∀ (i:Int) (t:Tok) (s:Δ) (Q:Α->Δ->Prop) (E:Α->Δ->Prop),Q (.int (g i) s.toks) { s with toks:=s.toks+1 }->Χ (Ω X.prog X.w) X.A (f (.int i t)) Q E s) :
  vM X f (rU λi => .int (g i)):=by
 intro pins s σ H x v Q I rx h;obtain ⟨i,rfl,q⟩:=Qo.mp h;obtain ⟨t,rfl⟩:=rx;exact rule i t s _ _ ⟨.int (g i),H,I.tok _,⟨_,rfl⟩,q⟩
theorem Vk:vM X (unaryOp .USub) (rU λi => .int (-i)):=Pq λ_ _ _ _ _ q=>neg_int q
end
def Qp:V->V->Bool
 | .non,.non=>true | .non,.int _=>true | .int _,.non=>true | .non,.bl _=>true | .bl _,.non=>true | .non,.str _=>true | .str _,.non=>true
 | .int _,.int _=>true | .bl _,.bl _=>true | .str _,.str _=>true | .fJ _,.fJ _=>true
 | .int _,.str _=>true | .str _,.int _=>true | .bl _,.str _=>true | .str _,.bl _=>true
 | _,_=>false
def kEq (x y:V) (k:Bool->Prop):Prop:=match x,y with
 | .int i,.int j=>k (decide (i=j))
 | .str i,.str j=>k (decide (i=j))
 | x,y=>Qp x y=true/\k (decide (x=y))
theorem DY (i j:Int) (k:Bool->Prop):kEq (.int i) (.int j) k=k (decide (i=j)):=rfl
theorem Ea (i j:Str) (k:Bool->Prop):kEq (.str i) (.str j) k=k (decide (i=j)):=rfl
theorem vP {x y:V} {k:Bool->Prop}:kEq x y k↔Qp x y=true/\k (decide (x=y)):=by
 unfold kEq
 split
 ·rename_i i j
  rw [show decide (V.int i=V.int j)=decide (i=j) from by simp];exact ⟨λh=>⟨rfl,h⟩,λh=>h.2⟩
 ·rename_i i j
  rw [show decide (V.str i=V.str j)=decide (i=j) from by simp];exact ⟨λh=>⟨rfl,h⟩,λh=>h.2⟩
 ·exact Iff.rfl
def vQ:R2:=λx y H Q=>kEq x y λb=>Q (.bl b) H
def vR:R2:=λx y H Q=>kEq x y λb=>Q (.bl (!b)) H
theorem Eb {i j:Int}:decide (V.int i=V.int j)=(i==j):=by
 rw [im];simp
theorem Ec {i j:Bool}:decide (V.bl i=V.bl j)=(i==j):=by
 rw [im];simp
theorem Ed {i j:Str}:decide (V.str i=V.str j)=(i==j):=by
 rw [im];simp
theorem Ef {i j:Array UInt8}:decide (V.fJ i=V.fJ j)=(i.toList==j.toList):=by
 rw [im]
 cases i
 cases j
 simp
section
variable {X:Cx} {a b c:Expr} {ta tb tc:TE} {pos:Pos}
theorem YJ {pins:List (Addr×Obj)} {σ:St} {H:Hp} {s:Δ} {Q:VK} {k k':Bool} (I:Inv X pins σ H s) (q:Q (.bl k) H) (e:k=k'):EP X pins σ Q (.bool k') s:=by
 subst e;exact ⟨.bl k,H,I,rfl,q⟩
theorem YK:bG X (da .Eq) vQ:=by
 intro pins s σ H x y v u Q I rx ry h;obtain ⟨hs,q⟩:=vP.mp h
 cases x with
 | non =>
  cases rx
  cases y with
  | non=>cases ry;exact PySem.EqNone.eq_none_none (YJ I q (by simp))
  | bl j=>cases ry;exact PySem.EqNone.eq_none_bool (YJ I q (by simp))
  | int j=>obtain ⟨t',rfl⟩:=ry;exact PySem.EqNone.eq_none_int (YJ I q (by simp))
  | str j=>obtain ⟨t',rfl⟩:=ry;exact PySem.EqNone.eq_none_str (YJ I q (by simp))
  | _=>exact absurd (show false=true from hs) ρ
 | bl i =>
  cases rx
  cases y with
  | non=>cases ry;exact PySem.EqNone.eq_bool_none (YJ I q (by simp))
  | bl j=>cases ry;exact eq_bool (YJ I q Ec)
  | str j=>obtain ⟨t',rfl⟩:=ry;exact PySem.EqMixed.eq_bool_str (YJ I q (by simp))
  | _=>exact absurd (show false=true from hs) ρ
 | int i =>
  obtain ⟨t,rfl⟩:=rx
  cases y with
  | non=>cases ry;exact PySem.EqNone.eq_int_none (YJ I q (by simp))
  | int j=>obtain ⟨t',rfl⟩:=ry;exact eq_int (YJ I q Eb)
  | str j=>obtain ⟨t',rfl⟩:=ry;exact PySem.EqMixed.eq_int_str (YJ I q (by simp))
  | _=>exact absurd (show false=true from hs) ρ
 | str i =>
  obtain ⟨t,rfl⟩:=rx
  cases y with
  | non=>cases ry;exact PySem.EqNone.eq_str_none (YJ I q (by simp))
  | bl j=>cases ry;exact PySem.EqMixed.eq_str_bool (YJ I q (by simp))
  | int j=>obtain ⟨t',rfl⟩:=ry;exact PySem.EqMixed.eq_str_int (YJ I q (by simp))
  | str j=>obtain ⟨t',rfl⟩:=ry;exact eq_str (YJ I q Ed)
  | _=>exact absurd (show false=true from hs) ρ
 | fJ i =>
  obtain ⟨t,rfl⟩:=rx
  cases y with
  | fJ j=>obtain ⟨t',rfl⟩:=ry;exact W.eq_bytes (YJ I q Ef)
  | _=>exact absurd (show false=true from hs) ρ
 | _=>cases y<;>exact absurd (show false=true from hs) ρ
theorem Eh:bG X (da .NotEq) vR:=by
 intro pins s σ H x y v u Q I rx ry h;obtain ⟨hs,q⟩:=vP.mp h
 cases x with
 | non =>
  cases rx
  cases y with
  | non=>cases ry;exact PySem.EqNone.ne_none_none (YJ I q (by simp))
  | bl j=>cases ry;exact PySem.EqNone.ne_none_bool (YJ I q (by simp))
  | int j=>obtain ⟨t',rfl⟩:=ry;exact PySem.EqNone.ne_none_int (YJ I q (by simp))
  | str j=>obtain ⟨t',rfl⟩:=ry;exact PySem.EqNone.ne_none_str (YJ I q (by simp))
  | _=>exact absurd (show false=true from hs) ρ
 | bl i =>
  cases rx
  cases y with
  | non=>cases ry;exact PySem.EqNone.ne_bool_none (YJ I q (by simp))
  | bl j=>cases ry;exact ne_bool (YJ I q (congrArg not Ec))
  | str j=>obtain ⟨t',rfl⟩:=ry;exact PySem.EqMixed.ne_bool_str (YJ I q (by simp))
  | _=>exact absurd (show false=true from hs) ρ
 | int i =>
  obtain ⟨t,rfl⟩:=rx
  cases y with
  | non=>cases ry;exact PySem.EqNone.ne_int_none (YJ I q (by simp))
  | int j=>obtain ⟨t',rfl⟩:=ry;exact ne_int (YJ I q (congrArg not Eb))
  | str j=>obtain ⟨t',rfl⟩:=ry;exact PySem.EqMixed.ne_int_str (YJ I q (by simp))
  | _=>exact absurd (show false=true from hs) ρ
 | str i =>
  obtain ⟨t,rfl⟩:=rx
  cases y with
  | non=>cases ry;exact PySem.EqNone.ne_str_none (YJ I q (by simp))
  | bl j=>cases ry;exact PySem.EqMixed.ne_str_bool (YJ I q (by simp))
  | int j=>obtain ⟨t',rfl⟩:=ry;exact PySem.EqMixed.ne_str_int (YJ I q (by simp))
  | str j=>obtain ⟨t',rfl⟩:=ry;exact ne_str (YJ I q (congrArg not Ed))
  | _=>exact absurd (show false=true from hs) ρ
 | fJ i =>
  obtain ⟨t,rfl⟩:=rx
  cases y with
  | fJ j=>obtain ⟨t',rfl⟩:=ry;exact W.ne_bytes (YJ I q (congrArg not Ef))
  | _=>exact absurd (show false=true from hs) ρ
 | _=>cases y<;>exact absurd (show false=true from hs) ρ
theorem UV:bG X (da .Lt) (gJ λi j => .bl (decide (i<j))):=tE λ_ _ _ _ _ _ _ q=>lt_int q
theorem vU:bG X (da .LtE) (gJ λi j => .bl (decide (i<=j))):=tE λ_ _ _ _ _ _ _ q=>le_int q
theorem vV:bG X (da .Gt) (gJ λi j => .bl (decide (j<i))):=tE λ_ _ _ _ _ _ _ q=>gt_int q
theorem Cv:bG X (da .GtE) (gJ λi j => .bl (decide (j<=i))):=tE λ_ _ _ _ _ _ _ q=>ge_int q
theorem Ys (b:Expr) {op:CmpOp} (h:op ≠ .In:=by decide) (h2:op ≠ .NotIn:=by decide):iF op b=false:=by
 have e1:(op==CmpOp.In)=false:=by cases op<;>first | rfl | exact absurd rfl h
 have e2:(op==CmpOp.NotIn)=false:=by cases op<;>first | rfl | exact absurd rfl h2
 cases b<;>simp [iF,e1,e2]
theorem Vl {op:CmpOp} {r:R2} (ho:bG X (da op) r) (ha:PE X a ta) (hb:PE X b tb) (hm:iF op b=false):PE X (.Compare a [op] [b] pos) (lH r ta tb):=by
 intro pins s σ H Q I h;exact wpAny_Compare1 (rz ha hb I h λv u s2 x y H2 I2 rx ry q=>ho pins s2 σ H2 x y v u Q I2 rx ry q) hm
def vW (t:TE):TT:=λσ H Q=>t σ H λx H'=>kB x λk=>Q k H'
theorem Yq {op:CmpOp} {r:R2} (ho:bG X (da op) r) (ha:PE X a ta) (hb:PE X b tb) (hm:iF op b=false):PT X (.Compare a [op] [b] pos) (vW (lH r ta tb)):=by
 intro pins s σ H Q I h;refine wpAny_isTrue_Compare1 (aA (ha pins s σ H _ I h) λv s1 ⟨x,H1,I1,r1,q1⟩=>aA (hb pins s1 σ H1 _ I1 q1) λu s2 ⟨y,H2,I2,r2,q2⟩ =>
  aA (ho pins s2 σ H2 x y v u _ I2 r1 r2 q2) λc s3 ⟨z,H3,I3,r3,q3⟩=>?_) hm
 replace q3:=sS.mp q3
 obtain ⟨k,e,q3⟩:=q3;subst e
 cases r3
 exact wpAny_truthy_bool ⟨H3,I3,q3⟩
def Ei (r r':R2) (ta tb tc:TE):TE:=λσ H Q=>ta σ H λx H1=>tb σ H1 λy H2=>r x y H2 λz H3=>kB z λk =>
 (if k=true then tc σ H3 λw' H4=>r' y w' H4 Q else Q (.bl false) H3)
theorem VT:(sizeLine:Nat)<2^63:=by rw [sizeLine_eq];decide
theorem UW:bG X (cw .Add) (λx y H Q=>∃ i j,x = .str i/\y = .str j/\i.length+j.length<=sizeLine/\Q (.str (i++j)) H):=by
 intro pins s σ H x y v u Q I rx ry h;obtain ⟨i,j,rfl,rfl,hz,q⟩:=h;obtain ⟨t,rfl⟩:=rx;obtain ⟨t',rfl⟩:=ry;exact add_str (λt' tk=>⟨.str (i++j),H,I.tok _,⟨_,rfl⟩,q⟩) hz
theorem Wx {x:V} {us:List Α} (r:Yt [x] us):∃ u,us=[u]/\YD x u:=by
 cases r with
 | cons r1 r2=>cases r2;exact ⟨_,rfl,r1⟩
theorem tG {x y:V} {us:List Α} (r:Yt [x,y] us):∃ u w',us=[u,w']/\YD x u/\YD y w':=by
 cases r with
 | cons r1 r2 =>
  cases r2 with
  | cons r3 r4=>cases r4;exact ⟨_,_,rfl,r1,r3⟩
def vX:List V->Hp->VK->Prop:=λxs H Q=>k2 xs λx y=>kI x λi=>kI y λj=>Q (.int (if j>i then j else i)) H
theorem Pr (hc:X.calm=true):XI X (.builtin "max") (vX):=by
 intro pins s σ H xs us Q I r h;obtain ⟨x,y,rfl,h1⟩:=qU h;obtain ⟨i,j,rfl,rfl,q⟩:=jN h1;obtain ⟨u,w',rfl,⟨t,rfl⟩,⟨t',rfl⟩⟩:=tG r;refine max_two_ints (I.ok.hd hc) λh' tk k=>⟨_,H,I.kept k,?_,q⟩
 by_cases hj:j>i
 ·rw [if_pos hj,if_pos hj];exact ⟨_,rfl⟩
 ·rw [if_neg hj,if_neg hj];exact ⟨_,rfl⟩
def vY:List V->Hp->VK->Prop:=λxs H Q=>k2 xs λx y=>kI x λi=>kI y λj=>Q (.int (if j<i then j else i)) H
theorem VU (hc:X.calm=true):XI X (.builtin "min") (vY):=by
 intro pins s σ H xs us Q I r h;obtain ⟨x,y,rfl,h1⟩:=qU h;obtain ⟨i,j,rfl,rfl,q⟩:=jN h1;obtain ⟨u,w',rfl,⟨t,rfl⟩,⟨t',rfl⟩⟩:=tG r;refine min_two_ints (I.ok.hd hc) λh' tk k=>⟨_,H,I.kept k,?_,q⟩
 by_cases hj:j<i
 ·rw [if_pos hj,if_pos hj];exact ⟨_,rfl⟩
 ·rw [if_neg hj,if_neg hj];exact ⟨_,rfl⟩
theorem Pu:XI X (.type "int") (λxs H Q=>(∃ i,xs=[.int i]/\Q (.int i) H)\/∃ k,xs=[.bl k]/\Q (.int (if k then 1 else 0)) H):=by
 intro pins s σ H xs us Q I r h;rcases h with ⟨i,rfl,q⟩ | ⟨k,rfl,q⟩
 ·obtain ⟨u,rfl,t,rfl⟩:=Wx r
  exact call_int_int ⟨.int i,H,I,⟨_,rfl⟩,q⟩
 ·obtain ⟨u,rfl,r1⟩:=Wx r
  cases r1
  exact call_int_bool ⟨.int (if k then 1 else 0),H,I.tok _,⟨_,rfl⟩,q⟩
end
structure g8 (h:Heap) (x dx C:Addr) (mA:Str->Option Α):Prop where
 obj:h.get? x=some (ge C dx)
 ns:h.Ns1 dx mA
 ne:dx≠x
theorem Px {h:Heap} {dx:Addr} {mA:Str->Option Α} (n:h.Ns1 dx mA):∃ od,h.get? dx=some od/\∀ name,W.lookIn name od=some (mA name):=by
 obtain ⟨o,es,ep,ho,hd,hk,_,hm⟩:=n;refine ⟨o,ho,λname=>?_⟩;have e:=hm name;unfold nsFind findBy at e;rw [<- Array.find?_toList] at e
 unfold W.lookIn;rw [hd];dsimp only
 split
 ·rename_i y q
  rw [q] at e
  exact congrArg some e
 ·rename_i q
  rw [q] at e
  have a:es.toList.any (·.refKey)=false:=by
   rw [List.any_eq_false];intro y hy;obtain ⟨z,t,hkey⟩:=hk y (Array.mem_toList_iff.mp hy);simp [DictEntry.refKey,hkey]
  have a':¬ es.toList.any (·.refKey)=true:=by rw [a];exact ρ
  rw [if_neg a'];exact congrArg some e
theorem g8.look {h:Heap} {x dx C:Addr} {mA:Str->Option Α} (I:g8 h x dx C mA):∃ od,W.InstAt h x (ge C dx) C (some od)/\∀ name,W.lookIn name od=some (mA name) :=
 let ⟨od,ho,hl⟩:=Px I.ns
 ⟨od,⟨I.obj,rfl,rfl,ho⟩,hl⟩
section
variable {prog:ζ} {w:ν} {A:ag} {E:Α->Δ->Prop} {s:Δ} {K:Ι} {x dx C f:Addr} {mA:Str->Option Α} {name:Str} {v:Α}
theorem Py {expr:Bool} {Q:Α->Δ->Prop} (X:K.In s.heap) (I:g8 s.heap x dx C mA) (hg:W.plainGet K C name=true) (hh:W.hasDictIn K C=true)
  (ha:fg K (.ref C) name=some none) (hv:mA name=some v) (hv':W.handedIn v=true) (h:Q v { s with toks:=s.toks+1 }) :
  Χ (Ω prog w) A (getAttr (.ref x) name expr) Q E s:=by
 obtain ⟨od,J,hl⟩:=I.look;exact W.get_value X J (W.plainGet_of hg).1 (W.findObj_own hh ha rfl (by rw [hl,hv])) hv' h
theorem Pz {pl:Sem Bool} {Q:Α×List Α->Δ->Prop} (X:K.In s.heap) (I:g8 s.heap x dx C mA) (hg:W.plainGet K C name=true)
  (hf:fg K (.ref C) name=some (some (.ref f))) (ht:W.isFn K (.ref f)=true) (hv:mA name=none) (h:Q (.ref f,[.ref x]) s) :
  Χ (Ω prog w) A (iA (.ref x) name pl) Q E s:=by
 obtain ⟨od,J,hl⟩:=I.look;exact W.method_fn X J (W.plainGet_of hg).1 (W.plainGet_of hg).2 hf (beq_iff_eq.mp ht) (by show (W.lookIn name od).map (·.isSome)=some false;rw [hl,hv];rfl) h
theorem PB {ns:List Str} {Q:Unit->Δ->Prop} (X:K.In s.heap) (I:g8 s.heap x dx C mA)
  (hs:fg K (.ref C) "__setattr__"=some (some (.builtin "object.__setattr__"))) (hp:W.plainOver K C=true) (ht:W.takerIn K C name=some none) (hh:W.hasDictIn K C=true)
  (hw:PySem.Within mA ns) (hsz:ns.length<=sizeLine)
  (h:∀ h',g8 h' x dx C (λy=>if y=name then some v else mA y)->br dx s.heap h'->Q () { s with heap:=h',toks:=s.toks+2 }) :
  Χ (Ω prog w) A (setAttr (.ref x) name v) Q E s:=by
 obtain ⟨od,J,hl⟩:=I.look;refine W.set_plain X J hs (W.osa_open (s:={ s with toks:=s.toks+1 }) (r:=none) X J hp ht λb=>?_);obtain ⟨cd,hc,hd'⟩:=W.any_some hh;have hx:s.heap.get? x=some ⟨.ref C,some dx,.plain,#[]⟩:=I.obj;refine Θ (Ν (Θ (Θ (wpAny_loadPart hx (Θ (W.Looks.here (s:={ s with toks:=s.toks+1 }) (W.looks_clsIn X hc) ?_))))));rw [hd'];refine Ν (a:=some dx) (Θ (Ν (Θ ?_)));refine wpAny_nsSet1 (s:={ s with toks:=s.toks+1 }) I.ns λh' hn2 hs2=>?_
 obtain ⟨oD,esD,epD,hoD,hdD,hcD⟩:=hn2.count (PySem.Within.cons name v hw);refine Θ (wpAny_lookBehind hoD (by rw [hdD];exact pastItsLine_dict (Ο hcD (by rw [χ];omega))) ?_);exact Ν (h _ ⟨(hs2.2 _ (am I.ne)).trans I.obj,hn2,I.ne⟩ hs2)
theorem PJ {R:Result->Δ->Prop} {vs:List Α} {kw:List (Str×Α)} (X:K.In s.heap) (hm:W.makesIn K C=true)
  (hi:fg K (.ref C) "__init__"=some (some (.ref f))) (hf:W.typeIn K (.ref f)=some (.type "function"))
  (h:fN (Ω prog w) (A.under (.builtin "type.__call__" ⟨.ref C::vs,kw⟩)) (.call (.ref f) ⟨.ref (s.heap.objs.size+1)::vs,kw⟩) (W.InitBack (s.heap.objs.size+1) R)
   { s with heap:=(s.heap.push fk).push (ge C s.heap.objs.size) }) :
  fN (Ω prog w) A (.call (.ref C) ⟨vs,kw⟩) R s:=by
 obtain ⟨hh,g,d,t,os⟩:=s;exact W.make_core (W.makes_of X hm) (W.looks_findIn X hi) (λself=>W.bind_fn X self hf) (.inl rfl) h
end
def YT (f:Str) (v:V):List (Str×V)->List (Str×V)
 | []=>[(f,v)]
 | (g,x)::r=>if g=f then (g,v)::r else (g,x)::YT f v r
theorem UA (f g:Str) (v:V):∀ fs:List (Str×V),(YT f v fs).lookup g=if g=f then some v else fs.lookup g
 | []=>by
  show b9 g [(f,v)]=_
  by_cases h:g=f
  ·have hb:(g==f)=true:=beq_iff_eq.mpr h
   simp only [b9,hb,if_pos h]
  ·have hb:(g==f)=false:=beq_eq_false_iff_ne.mpr h
   simp only [b9,hb,if_neg h]
 | (k,x)::r=>by
  have ih:=UA f g v r;rw [show YT f v ((k,x)::r)=(if k=f then (k,v)::r else (k,x)::YT f v r) from rfl];by_cases hk:k=f
  ·rw [if_pos hk]
   by_cases h:g=k
   ·have hb:(g==k)=true:=beq_iff_eq.mpr h
    simp only [b9,hb,if_pos (h.trans hk)]
   ·have hb:(g==k)=false:=beq_eq_false_iff_ne.mpr h
    simp only [b9,hb,if_neg (λe:g=f=>h (e.trans hk.symm))]
  ·rw [if_neg hk]
   by_cases h:g=k
   ·have hb:(g==k)=true:=beq_iff_eq.mpr h
    simp only [b9,hb,if_neg (λe:g=f=>hk (h.symm.trans e))]
   ·have hb:(g==k)=false:=beq_eq_false_iff_ne.mpr h
    simp only [b9,hb];exact ih
theorem VV (f:Str) (v:V):∀ fs:List (Str×V),f∈(YT f v fs).map (·.1)/\∀ g,g∈fs.map (·.1)->g∈(YT f v fs).map (·.1)
 | []=>⟨by simp [YT],λg h=>by simp at h⟩
 | (k,x)::r=>by
  obtain ⟨i1,i2⟩:=VV f v r;rw [show YT f v ((k,x)::r)=(if k=f then (k,v)::r else (k,x)::YT f v r) from rfl];by_cases hk:k=f
  ·rw [if_pos hk]
   subst hk;exact ⟨by simp,λg h=>by simpa using h⟩
  ·rw [if_neg hk]
   refine ⟨?_,λg h=>?_⟩
   ·rw [aa]
    exact bp _ i1
   ·rw [aa] at h ⊢
    rcases Φ.mp h with e | e
    ·exact Φ.mpr (.inl e)
    ·exact bp _ (i2 g e)
theorem Xl (f:Str) (v:V):∀ fs:List (Str×V),(YT f v fs).length<=fs.length+1
 | []=>by simp [YT]
 | (k,x)::r=>by
  have ih:=Xl f v r;rw [show YT f v ((k,x)::r)=(if k=f then (k,v)::r else (k,x)::YT f v r) from rfl];by_cases hk:k=f
  ·rw [if_pos hk,χ,χ];omega
  ·rw [if_neg hk,χ,χ];omega
theorem X9.some_of {v:V} {o:Option Α} (r:X9 (some v) o):∃ u,o=some u/\YD v u:=by
 cases o with
 | none=>exact (show False from r).elim
 | some u=>exact ⟨u,rfl,r⟩
theorem X9.none_of {o:Option Α} (r:X9 none o):o=none:=by
 cases o with
 | none=>rfl
 | some u=>exact (show False from r).elim
theorem PK {v:V} {u:Α} (r:YD v u):W.handedIn u=true:=by
 cases v with
 | non=>cases (show u=ia from r);rfl
 | bl b=>cases (show u=jj b from r);rfl
 | int i=>obtain ⟨t,e⟩:=(show ∃ t,u=ja i t from r);cases e;rfl
 | str x=>obtain ⟨t,e⟩:=(show ∃ t,u=hW x t from r);cases e;rfl
 | fJ b=>obtain ⟨t,e⟩:=(show ∃ t,u=Value.bytes b t from r);cases e;rfl
 | flt b=>obtain ⟨t,e⟩:=(show ∃ t,u=Value.float b t from r);cases e;rfl
 | ref a=>cases (show u=ω a from r);rfl
 | ty n=>cases (show u=Value.type n from r);rfl
section
variable {P:ζ} {w:ν} {H H':Hp} {h h':Heap} {a C dx:Addr} {fs fs':List (Str×V)}
theorem Um (hok:bD P w H h) (e:H a=some (.ins C dx fs)):∃ mA,g8 h a dx C mA/\(∀ f,X9 (fs.lookup f) (mA f))/\PySem.Within mA (fs.map (·.1))/\fs.length<=1000/\H dx=some (.own a):=by
 obtain ⟨d,z,ne,ob,mA,n,r,q⟩:=(show YV P w H h a (.ins C dx fs) from hok a _ e);exact ⟨mA,⟨ob,n,ne⟩,r,q,z,d⟩
end
structure Cls (K:Ι) (C:Addr):Prop where
 pg:W.plainGet K C Str.empty=true
 hd:W.hasDictIn K C=true
 po:W.plainOver K C=true
 sa:fg K (.ref C) "__setattr__"=some (some (.builtin "object.__setattr__"))
theorem Cls.get {K:Ι} {C:Addr} (c:Cls K C) (f:Str):W.plainGet K C f=true:=c.pg
def Yf (K:Ι) (C:Addr) (f:Str):Prop:=fg K (.ref C) f=some none
theorem Yf.taker {K:Ι} {C:Addr} {f:Str} (n:Yf K C f):W.takerIn K C f=some none:=by
 unfold W.takerIn;rw [show fg K (.ref C) f=some none from n];rfl
structure Meth (K:Ι) (C:Addr) (m:Str) (f:Addr):Prop where
 at_:fg K (.ref C) m=some (some (.ref f))
 fn:W.isFn K (.ref f)=true
 kp:ff K (.ref f)=true
section
variable {X:Cx} {pins:List (Addr×Obj)} {σ:St} {H:Hp} {s:Δ} {a C dx:Addr} {fs:List (Str×V)} {f:Str} {v:V} {A:ag} {E:Α->Δ->Prop}
theorem PL {b:Bool} {Q:Α->Δ->Prop} (I:Inv X pins σ H s) (e:H a=some (.ins C dx fs)) (c:Cls X.K C) (n:Yf X.K C f) (l:fs.lookup f=some v)
  (h:∀ u s',Inv X pins σ H s'->YD v u->Q u s'):Χ (Ω X.prog X.w) A (getAttr (.ref a) f b) Q E s:=by
 obtain ⟨mA,O,r,_,_,_⟩:=Um I.hok e;obtain ⟨u,hu,ru⟩:=X9.some_of (v:=v) (o:=mA f) (by rw [<- l];exact r f);exact Py I.bF O (c.get f) c.hd n hu (PK ru) (h u _ (I.tok _) ru)
theorem UX {m:Str} {g:Addr} {pl:Sem Bool} {Q:Α×List Α->Δ->Prop} (I:Inv X pins σ H s) (e:H a=some (.ins C dx fs)) (c:Cls X.K C) (k:Meth X.K C m g) (l:fs.lookup m=none)
  (h:Q (.ref g,[.ref a]) s):Χ (Ω X.prog X.w) A (iA (.ref a) m pl) Q E s:=by
 obtain ⟨mA,O,r,_,_,_⟩:=Um I.hok e;have hn:mA m=none:=X9.none_of (by rw [<- l];exact r m);exact Pz I.bF O (c.get m) k.at_ k.fn hn h
theorem PN {y:V} {u:Α} {Q:Unit->Δ->Prop} (I:Inv X pins σ H s) (e:H a=some (.ins C dx fs)) (c:Cls X.K C) (n:Yf X.K C f) (hl:fs.length<1000) (ry:YD y u)
  (h:∀ s',Inv X pins σ (upd H a (.ins C dx (YT f y fs))) s'->Q () s'):Χ (Ω X.prog X.w) A (setAttr (.ref a) f u) Q E s:=by
 obtain ⟨mA,O,r,wi,_,ho⟩:=Um I.hok e;have hz:(fs.map (·.1)).length<=sizeLine:=by rw [Β,sizeLine_eq];omega
 refine PB I.bF O c.sa c.po n.taker c.hd wi hz λh' O' sb=>h _ ?_
 have hd:∃ o,h'.get? dx=some o:=let ⟨o,_,_,e',_⟩:=O'.ns;⟨o,e'⟩
 refine I.write (x:=a) (e:=dx) (by rw [e];exact dk) (.inr ho) (λb q hb z=>(sb.2 b hb).trans z) hd ?_;refine ⟨by rw [Yh O.ne];exact ho,?_,O.ne,O'.obj,_,O'.ns,λg=>?_,λg hg=>?_⟩
 ·have:=Xl f y fs;omega
 ·show X9 ((YT f y fs).lookup g) (if g=f then some u else mA g)
  rw [UA];by_cases q:g=f
  ·rw [if_pos q,if_pos q];exact ry
  ·rw [if_neg q,if_neg q];exact r g
 ·by_cases q:g=f
  ·rw [q];exact (VV f y fs).1
  ·refine (VV f y fs).2 g (wi g λz=>hg ?_)
   show (if g=f then some u else mA g)=none
   rw [if_neg q];exact z
theorem Inv.made (I:Inv X pins σ H s):Inv X pins σ (upd (upd H s.heap.objs.size (.own (s.heap.objs.size+1))) (s.heap.objs.size+1) (.ins C s.heap.objs.size []))
  { s with heap:=(s.heap.push fk).push (ge C s.heap.objs.size) }:=by
 have e1:(s.heap.push fk).get? s.heap.objs.size=some W.emptyDict:=ah s.heap rfl;have e2:((s.heap.push fk).push (ge C s.heap.objs.size)).get? (s.heap.objs.size+1)=some (ge C s.heap.objs.size):=by
  have:=ah (s.heap.push fk) (o:=ge C s.heap.objs.size) rfl
  rwa [ir] at this
 have e3:(s.heap.push fk).Ns s.heap.objs.size (λ_=>none):=⟨fk,#[],_,e1,rfl,(λe he=>absurd he (by simp)),λ_=>rfl⟩;have I1:=I.laid (a:=s.heap.objs.size) (o := .own (s.heap.objs.size+1)) (h':=s.heap.push fk) (t':=s.toks) (λb u q=>Ρ _ q) (Κ _) ⟨_,e1⟩;refine I1.laid (a:=s.heap.objs.size+1) (o := .ins C s.heap.objs.size []) (t':=s.toks) (λb u q=>Ρ _ q) (i5 (ir _ _)) ?_;have ne:s.heap.objs.size≠s.heap.objs.size+1:=ς (Nat.lt_succ_self _);refine ⟨by rw [Yh ne,Yc],ι _,ne,e2,λ_=>none,(Heap.Ns1.of_empty e3).at λo q=>Ρ _ q,λ_=>dk,λy hy=>absurd rfl hy⟩
theorem PX {prog:ζ} {w:ν} {env:Env} {e:Expr} {f:Str} {pos:Pos} {s:Δ} {Q:Α->Δ->Prop} (hb:fI e f env (eval e env)=eval e env)
  (h:Χ (Ω prog w) A (eval e env) (λo s₁=>Χ (Ω prog w) A (getAttr o f true) Q E s₁) E s):Χ (Ω prog w) A (eval (.Attribute e f pos) env) Q E s :=
 Attribute_any_ h (by rw [arm_eval_Attribute,hb])
end
inductive Nh (K:Ι) (H:Hp) (a:Addr) (f:Str) (Q:V->Prop):Prop
 | mk (C dx:Addr) (fs:List (Str×V)) (h:H a=some (.ins C dx fs)) (c:Cls K C) (n:Yf K C f) (v:V) (l:fs.lookup f=some v) (q:Q v)
inductive Ni (K:Ι) (H:Hp) (a:Addr) (f:Str) (Q:Addr->Addr->List (Str×V)->Prop):Prop
 | mk (C dx:Addr) (fs:List (Str×V)) (h:H a=some (.ins C dx fs)) (c:Cls K C) (n:Yf K C f) (l:fs.length<1000) (q:Q C dx fs)
def tH (K:Ι) (ta:TE) (f:Str):TE:=λσ H Q=>ta σ H λx H1=>kR x λa=>Nh K H1 a f λv=>Q v H1
def rD (K:Ι) (ta tv:TE) (f:Str):TS:=λD σ H=>tv σ H λy H1=>ta σ H1 λx H2=>kR x λa=>Ni K H2 a f λC dx fs=>D.nx σ (upd H2 a (.ins C dx (YT f y fs)))
section
variable {X:Cx} {o e value:Expr} {f:Str} {pos pos' tpos:Pos} {ta tv:TE}
theorem Yv (he:PE X e ta) (hb:fI e f X.env (eval e X.env)=eval e X.env):PE X (.Attribute e f pos) (tH X.K ta f):=by
 intro pins s σ H Q I h;refine PX hb (aA (he pins s σ H _ I h) λu s1 ⟨x,H1,I1,rx,q⟩=>?_)
 replace q:=Ve.mp q
 obtain ⟨a,ex,C,dx,fs,ea,c,n,v,l,q⟩:=q;subst ex;obtain rfl:u=ω a:=rx;exact PL I1 ea c n l λu' s2 I2 ru=>⟨v,H1,I2,ru,q⟩
theorem Y8 (ha:PE X o ta) (hv:PE X value tv) (hs:swapsWith value (some (.Attribute o f pos')) pos.line X.env=pure false):PS X (.Assign [.Attribute o f pos'] value pos) (rD X.K ta tv f):=by
 intro pins s σ H D I h;refine plainObj_wpAny_Assign_Attribute (aA (hv pins s σ H _ I h) λu s1 ⟨y,H1,I1,ry,q⟩=>aA (ha pins s1 σ H1 _ I1 q) λov s2 ⟨x,H2,I2,rx,q2⟩=>?_) hs
 replace q2:=Ve.mp q2
 obtain ⟨a,ex,C,dx,fs,ea,c,n,l,q2⟩:=q2;subst ex;obtain rfl:ov=ω a:=rx;exact PN I2 ea c n l ry λs3 I3=>⟨σ,_,I3,q2⟩
end
section
variable {X:Cx} {pins:List (Addr×Obj)} {σ:St} {H:Hp} {s:Δ} {A:ag} {E:Α->Δ->Prop} {Q:Α->Δ->Prop} {c:Α} {b:Bool}
inductive cA (K:Ι) (H:Hp):V->Α->Prop where
 | non:cA K H .non (.type "NoneType")
 | bl (x:Bool):cA K H (.bl x) (.type "bool")
 | int (i:Int):cA K H (.int i) (.type "int")
 | str (x:Str):cA K H (.str x) (.type "str")
 | flt (x:UInt64):cA K H (.flt x) (.type "float")
 | lst {a:Addr} {xs:List V} (e:H a=some (.lst xs)):cA K H (.ref a) (.type "list")
 | dO {a:Addr} {o:Obj} {xs:List V} (e:H a=some (.dO o (.lst xs))):cA K H (.ref a) (.type "list")
 | tup {a:Addr} {xs:List V} (e:H a=some (.tup xs)):cA K H (.ref a) (.type "tuple")
 | dK {a:Addr} {kvs:List (Key×V)} (e:H a=some (.dK kvs)):cA K H (.ref a) (.type "dict")
 | dT {a:Addr} {kvs:List (List Key×V)} (e:H a=some (.dT kvs)):cA K H (.ref a) (.type "dict")
 | ins {a C dx:Addr} {fs:List (Str×V)} (e:H a=some (.ins C dx fs)) (cl:Cls K C) (ha:fg K (.ref C) "__class__"=some (some (.builtin "object.__class__")))
   (hn:W.specialIn K (.builtin "object.__class__") "__get__"=some (some (.builtin "getset_descriptor.__get__"))) (htk:W.takesIn K (.builtin "object.__class__")=some true)
   (hm:W.mroIn K C (.type "object")=some true):cA K H (.ref a) (.ref C)
theorem Ra {x:V} {u t:Α} (I:Inv X pins σ H s) (rx:YD x u) (ty:cA X.K H x t) (e:W.kitOne X.K t c=some b) (h:∀ tk,Q (.bool b) { s with toks:=tk }) :
  Χ (Ω X.prog X.w) A (call (.builtin "isinstance") [u,c]) Q E s:=by
 cases ty with
 | non=>cases (show u=ia from rx);exact eA W.kitx_none I.bF dk e (λz=>nomatch z) h
 | bl y=>cases (show u=jj y from rx);exact eA W.kitx_bool I.bF dk e (λz=>nomatch z) h
 | int i=>obtain ⟨t,q⟩:=(show ∃ t,u=ja i t from rx);cases q;exact eA W.kitx_int I.bF dk e (λz=>nomatch z) h
 | str y=>obtain ⟨t,q⟩:=(show ∃ t,u=hW y t from rx);cases q;exact eA W.kitx_str I.bF dk e (λz=>nomatch z) h
 | flt y=>obtain ⟨t,q⟩:=(show ∃ t,u=Value.float y t from rx);cases q;exact eA W.kitx_float I.bF dk e (λz=>nomatch z) h
 | @lst a xs ea =>
  cases (show u=ω a from rx)
  obtain ⟨_,_,n,_,h1⟩:=(show YV X.prog X.w H s.heap a (.lst xs) from I.hok a _ ea);exact eA W.kitx_list I.bF ⟨_,h1,rfl⟩ e (λz=>nomatch z) h
 | @dO a ob xs ea =>
  cases (show u=ω a from rx)
  obtain ⟨_,_,_,n,_,h1⟩:=(show YV X.prog X.w H s.heap a (.dO ob (.lst xs)) from I.hok a _ ea);exact eA W.kitx_list I.bF ⟨_,h1,rfl⟩ e (λz=>nomatch z) h
 | @tup a xs ea =>
  cases (show u=ω a from rx)
  obtain ⟨_,_,_,p⟩:=(show YV X.prog X.w H s.heap a (.tup xs) from I.hok a _ ea);obtain ⟨o,h1,h2,_⟩:=p;exact eA W.kitx_tuple I.bF ⟨o,h1,h2⟩ e (λz=>nomatch z) h
 | @dK a kvs ea =>
  cases (show u=ω a from rx)
  obtain ⟨_,_,vs,_,p⟩:=(show YV X.prog X.w H s.heap a (.dK kvs) from I.hok a _ ea);obtain ⟨o,es,ep,h1,h2,_⟩:=p;exact eA W.kitx_dict I.bF ⟨o,h1,h2.1⟩ e (λz=>nomatch z) h
 | @dT a kvs ea =>
  cases (show u=ω a from rx)
  obtain ⟨_,_,xs,_,o,es,ep,h1,h2,_⟩:=(show YV X.prog X.w H s.heap a (.dT kvs) from I.hok a _ ea);exact eA W.kitx_dict I.bF ⟨o,h1,h2.1⟩ e (λz=>nomatch z) h
 | @ins a C dx fs ea cl ha hn htk hm =>
  cases (show u=ω a from rx)
  obtain ⟨mA,O,_⟩:=Um I.hok ea;obtain ⟨od,J,_⟩:=O.look;exact eA (W.kitx_own (cl.get _) cl.hd ha hn htk hm) I.bF J e (λz=>nomatch z) h
end
structure aQ (k:Nat) (A:ag):Prop where
 hd:A.handled=none
 dp:A.depth+3*k+5<recursionLimit
 un:A.units+16*k+200<gc
 gd:A.guards=some []
theorem aQ.mono {j k:Nat} {A:ag} (r:aQ k A) (h:j<=k):aQ j A:=⟨r.hd,by have:=r.dp;omega,by have:=r.un;omega,r.gd⟩
theorem aQ.deeper {k:Nat} {A:ag} (r:aQ (k+1) A) (env:Env):aQ k (A.deeper env) :=
 ⟨r.hd,by have:=r.dp;show A.depth+1+3*k+5<_;omega,by have:=r.un;show A.units+3+16*k+200<_;omega,r.gd⟩
theorem Rb {A:ag} {C:Addr} {us:List Α} {kw:List (Str×Α)}:(A.under (.builtin "type.__call__" ⟨.ref C::us,kw⟩)).depth=A.depth+1:=by
 first | rfl | simp [i9,Code.weight,Code.isCreation,Code.isGuard,Code.isCaller,Code.frames,i8,guardIds]
theorem Rc {A:ag} {C:Addr} {us:List Α} {kw:List (Str×Α)}:(A.under (.builtin "type.__call__" ⟨.ref C::us,kw⟩)).units=A.units+1:=by
 first | rfl | simp [i9,Code.cUnits,Code.frames,i8]
theorem aQ.make {k:Nat} {A:ag} (r:aQ (k+1) A) (C:Addr) (us:List Α) (kw:List (Str×Α)):aQ k (A.under (.builtin "type.__call__" ⟨.ref C::us,kw⟩)) :=
 ⟨r.hd,by have:=r.dp;rw [Rb];omega,by have:=r.un;rw [Rc];omega,by first | exact r.gd | simpa [i9,Code.isGuard,i8,guardIds] using r.gd⟩
theorem aQ.depth {k:Nat} {A:ag} (r:aQ k A):A.depth<recursionLimit:=by have:=r.dp;omega
theorem aQ.units {k:Nat} {A:ag} (r:aQ k A):A.units+64<cLine:=by have:=r.un;omega
def Vw:TA:=λ_ H Q=>Q [] H
def Vx (ta:TE) (tr:TA):TA:=λσ H Q=>ta σ H λx H1=>tr σ H1 λxs H2=>Q (x::xs) H2
section
variable {X:Cx} {e:Expr} {es:List Expr} {te:TE} {t:TA} {pos:Pos}
theorem Yd:PA X [] Vw:=λ_ _ _ _ H Q I h=>Calls.spliced_nil ⟨[],H,I,.nil,h⟩
theorem Ya (ha:PE X e te) (hr:PA X es t) (hs:θ (e::es) X.env=(false,eval e X.env)::θ es X.env:=by rfl):PA X (e::es) (Vx te t):=by
 intro pos pins s σ H Q I h;rw [hs]
 show Χ _ _ (spliced ((false,eval e X.env)::bS pos (θ es X.env))) _ _ s
 refine Calls.spliced_cons (aA (ha pins s σ H _ I h) λu s1 ⟨x,H1,I1,r1,q1⟩=>?_);exact aA (hr pos pins s1 σ H1 _ I1 q1) λus s2 ⟨xs,H2,I2,r2,q2⟩=>⟨x::xs,H2,I2,.cons r1 r2,q2⟩
def rE (t:TA):TE:=λσ H Q=>t σ H λxs H1=>xs.length<=sizeLine/\∀ p,H1 p=none->Q (.ref p) (upd H1 p (.tup xs))
def rF (t:TA):TE:=λσ H Q=>t σ H λxs H1=>xs.length<=sizeLine/\∀ p,H1 p=none->Q (.ref p) (upd H1 p (.lst xs))
theorem Y9 {x1} (h:PA X es t):PE X (.Tuple es x1 pos) (rE t):=by
 intro pins s σ H Q I hq;refine wpAny_Tuple_spliced (aA (h pos pins s σ H _ I hq) λus s1 ⟨xs,H1,I1,r,z,q⟩=>⟨by rw [<- r.length];exact z,?_⟩);have hf:H1 s1.heap.objs.size=none:=I1.hok.fresh (Κ _);refine ⟨.ref s1.heap.objs.size,upd H1 s1.heap.objs.size (.tup xs),I1.laid (t':=s1.toks) (λb u e=>Ρ _ e) (Κ _) ?_,rfl,q _ hf⟩;exact ⟨z,us,r,⟨_,ah _ rfl,rfl,_,rfl⟩⟩
theorem YR (h:PA X es t):PE X (.List es pos) (rF t):=by
 intro pins s σ H Q I hq;refine wpAny_List_spliced (aA (h pos pins s σ H _ I hq) λus s1 ⟨xs,H1,I1,r,z,q⟩=>⟨by rw [<- r.length];exact z,?_⟩);have hf:H1 s1.heap.objs.size=none:=I1.hok.fresh (Κ _);refine ⟨.ref s1.heap.objs.size,upd H1 s1.heap.objs.size (.lst xs),I1.laid (t':=s1.toks) (λb u e=>Ρ _ e) (Κ _) ?_,rfl,q _ hf⟩;exact ⟨z,us,0,r,ah _ rfl⟩
end
abbrev Sp:=List V->Hp->VK->XK->Prop
abbrev dU:=List Env->Hp->Δ->XK->Α->Δ->Prop
structure ig (P:ζ) (w:ν) (K:Ι) (mg:Str->Option Α) (base:Heap) (A:ag) (outer:List Env) (s:Δ) (H:Hp):Prop where
 frames:A.frames=some outer
 mod:Mod K mg base
 bs:∀ b o,base.get? b=some o->s.heap.get? b=some o/\H b=none
 fX:base.objs.size<=s.heap.objs.size
 dF:s.heap.FunFrames base outer
 jH:∀ b∈frs outer,H b=none
 hok:bD P w H s.heap
 bare:hV s.gens
def CE (outer:List Env) (P:ζ) (w:ν) (H:Hp) (s:Δ) (Q:VK) (u:Α) (s':Δ):Prop :=
 ∃ v H',s'.os=s.os/\hV s'.gens/\Un (frs outer) [] H H' s.heap s'.heap/\bD P w H' s'.heap/\YD v u/\Q v H'
def CR (CX:dU) (outer:List Env) (P:ζ) (w:ν) (H:Hp) (s:Δ) (Q:VK) (E:XK) (r:Result) (s':Δ):Prop :=
 match r with
 | .ok (.ret u)=>CE outer P w H s Q u s'
 | .ok _=>False
 | .error e=>CX outer H s E e s'
structure bM (P:ζ) (w:ν) (K:Ι) (mg:Str->Option Α) (base:Heap) (CX:dU) (k:Nat) (f:Addr) (fd:fh) (ps:List Str) (sp:Sp):Prop where
 len:∀ vs H Q E,sp vs H Q E->vs.length=ps.length
 run:∀ (A:ag) (outer:List Env) (s:Δ) (H:Hp) (args:Args) (us:List Α) (vs:List V) (Q:VK) (E:XK),aQ k A->ig P w K mg base A outer s H->BindsTo s fd args (ps.zip us)->Yt vs us->sp vs H Q E ->
  fN (Ω P w) A (.call (.ref f) args) (CR CX outer P w H s Q E) s
theorem bM.mono {P:ζ} {w:ν} {K:Ι} {mg:Str->Option Α} {base:Heap} {CX:dU} {j k:Nat} {f:Addr} {fd:fh} {ps:List Str} {sp:Sp} (F:bM P w K mg base CX j f fd ps sp) (h:j<=k) :
  bM P w K mg base CX k f fd ps sp:=⟨F.len,λA outer s H args us vs Q E hr=>F.run A outer s H args us vs Q E (hr.mono h)⟩
theorem ig.make {P:ζ} {w:ν} {K:Ι} {mg:Str->Option Α} {base:Heap} {A:ag} {outer:List Env} {s:Δ} {H:Hp} (e:ig P w K mg base A outer s H) (C:Addr) (us:List Α) (kw:List (Str×Α)) :
  ig P w K mg base (A.under (.builtin "type.__call__" ⟨.ref C::us,kw⟩)) outer s H:=⟨by first | exact e.frames | (simpa [i9,Code.envs,i8,pushEnvs] using e.frames),e.mod,e.bs,e.fX,e.dF,e.jH,e.hok,e.bare⟩
section
variable {X:Cx} {pins:List (Addr×Obj)} {σ:St} {H:Hp} {s s':Δ}
theorem Inv.env0 (I:Inv X pins σ H s):ig X.prog X.w X.K X.mg X.base X.A X.stack s H :=
 ⟨I.ok.frames,I.ok.mod,I.bs,Ο I.ok.fX I.sz,I.stack,I.ji,I.hok,I.bare⟩
theorem Inv.after {Q:VK} {u:Α} (I:Inv X pins σ H s) (h:CE X.stack X.prog X.w H s Q u s'):EP X pins σ Q u s':=by
 obtain ⟨v,H',os,bare,un,hok,r,q⟩:=h;obtain ⟨hh,g,d,t,os'⟩:=s';obtain rfl:os'=s.os:=os;exact ⟨v,H',I.call (h':=hh) (g':=g) (d':=d) (t':=t) (ch:=[]) un hok bare (λb z=>absurd z (by simp)),r,q⟩
end
def W7 (sp:Sp) (aV:List V) (E:XK) (t:TA):TE:=λσ H Q=>t σ H λvs H1=>sp (vs++aV) H1 Q E
inductive Rf (H:Hp) (a C:Addr) (m:Str) (Q:Prop):Prop
 | mk (dx:Addr) (fs:List (Str×V)) (h:H a=some (.ins C dx fs)) (l:fs.lookup m=none) (q:Q)
def UY (C:Addr) (m:Str) (sp:Sp) (aV:List V) (E:XK) (ta:TE) (t:TA):TE:=λσ H Q=>ta σ H λx H1=>kR x λa=>Rf H1 a C m (t σ H1 λvs H2=>sp (.ref a::(vs++aV)) H2 Q E)
def Uo (C:Addr) (sp:Sp) (aV:List V) (E:XK) (t:TA):TE:=λσ H Q=>t σ H λvs H1=>∀ x dx,H1 x=none->H1 dx=none->dx≠x ->
 sp (.ref x::(vs++aV)) (upd (upd H1 dx (.own x)) x (.ins C dx [])) (λv H2=>v = .non/\Q (.ref x) H2) E
def Xf (K:Ι) (fd:fh) (ps:List Str) (ds:List Α):Prop :=
 ∀ (s:Δ) (us:List Α),K.In s.heap->(us++ds).length=ps.length->BindsTo s fd ⟨us,[]⟩ (ps.zip (us++ds))
theorem Xf.all {K:Ι} {fd:fh} {ps:List Str} (h:∀ us:List Α,us.length=ps.length->gS fd ⟨us,[]⟩=pure (ps.zip us)):Xf K fd ps []:=λs us _ hl=>by
 rw [a4] at hl ⊢
 exact .of_eq (h us hl)
def WX (CX:dU) (X:Cx) (E:XK):Prop:=∀ (pins:List (Addr×Obj)) (σ:St) (H:Hp) (s:Δ) (e:Α) (s':Δ),Inv X pins σ H s->CX X.stack H s E e s'->X.xe e s'
section
variable {X:Cx} {CX:dU} {k:Nat} {f C:Addr} {fd:fh} {ps:List Str} {sp:Sp} {aV:List V} {ds:List Α} {E:XK} {x m:Str} {p pos apos:Pos} {e o:Expr} {es:List Expr} {ta:TE} {t:TA}
theorem UZ {pins:List (Addr×Obj)} {σ:St} {H:Hp} {s:Δ} {Q:VK} {us:List Α} {vs:List V} (F:bM X.prog X.w X.K X.mg X.base CX k f fd ps sp) (hr:aQ k X.A) (hb:Xf X.K fd ps ds) (hd:Yt aV ds) (hx:WX CX X E)
  (I:Inv X pins σ H s) (r:Yt vs us) (h:sp (vs++aV) H Q E):Χ (Ω X.prog X.w) X.A (call (.ref f) us) (EP X pins σ Q) X.xe s:=by
 have r2:Yt (vs++aV) (us++ds):=r.append hd;have hl:(us++ds).length=ps.length:=by rw [<- r2.length];exact F.len _ _ _ _ h
 refine wpAny_call (iX (F.run X.A X.stack s H ⟨us,[]⟩ (us++ds) (vs++aV) Q E hr I.env0 (hb s us I.bF hl) r2 h) λr s' hq=>?_)
 cases r with
 | error e=>exact hx pins σ H s e s' I hq
 | ok fl =>
  cases fl with
  | ret u=>exact I.after hq
  | next=>exact ca hq
  | brk=>exact ca hq
  | cont=>exact ca hq
theorem Ej (F:bM X.prog X.w X.K X.mg X.base CX k f fd ps sp) (hr:aQ k X.A) (hg:Gl X x) (hm:X.mg x=some (.ref f)) (hk:ff X.K (.ref f)=true) (hb:Xf X.K fd ps ds) (hd:Yt aV ds) (hx:WX CX X E)
  (ha:PA X (e::es) t) (hdb:(x==("__debug__":Str))=false:=by decide) (he:θ (e::es) X.env=(false,eval e X.env)::θ es X.env:=by rfl) (hpl:(bS pos (θ es X.env)).any (·.1)=false:=by rfl) :
  PE X (.Call (.Name x p) (e::es) [] pos) (W7 sp aV E t):=by
 intro pins s σ H Q I h;refine eW (Uj I hg hm ?_ hdb);refine fb (h₀:=X.base) I.ok.mod.jG hk (aA (ha pos pins s σ H _ I h) λus s1 ⟨vs,H1,I1,r,q⟩=>⟨I1.bF,?_⟩) he hpl;exact UZ F hr hb hd hx I1 r q
theorem Rg {pl:Sem Bool} (he:PE X o ta) (c:Cls X.K C) (hm:Meth X.K C m f) (F:bM X.prog X.w X.K X.mg X.base CX k f fd ps sp) (hr:aQ k X.A) (hb:Xf X.K fd ps ds) (hd:Yt aV ds) (hx:WX CX X E) (ha:PA X (e::es) t)
  (hst:θ (e::es) X.env=(false,eval e X.env)::θ es X.env:=by rfl) (hpl:(bS pos (θ es X.env)).any (·.1)=false:=by rfl)
  (ht:eval (.Call (.Attribute o m apos) (e::es) [] pos) X.env=(do
   let ov <- eval o X.env
   standAt apos.atName
   let (f,first) <- holding [ov] (iA ov m pl)
   callWith pos f first (bS pos (θ (e::es) X.env)) (iP pos (gE [] X.env))):=by rfl) :
  PE X (.Call (.Attribute o m apos) (e::es) [] pos) (UY C m sp aV E ta t):=by
 intro pins s σ H Q I h;refine PySem.W.methodCall_KW (pl:=pl) (aA (he pins s σ H _ I h) λu s1 ⟨x,H1,I1,rx,q⟩=>?_) ht
 replace q:=Ve.mp q
 obtain ⟨a,ex,dx,fs,ea,l,q⟩:=q;subst ex;obtain rfl:u=ω a:=rx;refine UX I1 ea c hm l ?_;refine fb (first:=[.ref a]) (h₀:=X.base) I.ok.mod.jG hm.kp (aA (ha pos pins s1 σ H1 _ I1 q) λus s2 ⟨vs,H2,I2,r,q2⟩=>⟨I2.bF,?_⟩) hst hpl;exact UZ (us := .ref a::us) (vs := .ref a::vs) F hr hb hd hx I2 (.cons rfl r) q2
structure Mk (K:Ι) (C f:Addr):Prop where
 makes:W.makesIn K C=true
 init:fg K (.ref C) "__init__"=some (some (.ref f))
 fn:W.isFn K (.ref f)=true
 kp:ff K (.ref C)=true
theorem Ek {pins:List (Addr×Obj)} {σ:St} {H:Hp} {s:Δ} {Q:VK} {us:List Α} {vs:List V} (M:Mk X.K C f) (F:bM X.prog X.w X.K X.mg X.base CX k f fd ps sp) (hr:aQ (k+1) X.A) (hb:Xf X.K fd ps ds) (hd:Yt aV ds)
  (hx:WX CX X E) (I:Inv X pins σ H s) (r:Yt vs us)
  (h:∀ x dx,H x=none->H dx=none->dx≠x->sp (.ref x::(vs++aV)) (upd (upd H dx (.own x)) x (.ins C dx [])) (λv H2=>v = .non/\Q (.ref x) H2) E) :
  Χ (Ω X.prog X.w) X.A (call (.ref C) us) (EP X pins σ Q) X.xe s:=by
 have hq:=h (s.heap.objs.size+1) s.heap.objs.size (I.hok.fresh (dm _)) (I.hok.fresh (Κ _)) (ς (Nat.lt_succ_self _));have I2:=Inv.made (C:=C) I;have r2:Yt (V.ref (s.heap.objs.size+1)::(vs++aV)) (ω (s.heap.objs.size+1)::(us++ds)) := .cons rfl (r.append hd);have hl:(ω (s.heap.objs.size+1)::us++ds).length=ps.length:=by
  have e:=r2.length;rw [F.len _ _ _ _ hq] at e
  exact e.symm
 refine wpAny_call (PJ (f:=f) I.bF M.makes M.init (beq_iff_eq.mp M.fn) (iX (F.run _ X.stack _ _ ⟨ω (s.heap.objs.size+1)::us,[]⟩ (ω (s.heap.objs.size+1)::(us++ds)) _ _ E (hr.make C us [])
  (I2.env0.make C us []) (hb _ (ω (s.heap.objs.size+1)::us) I2.bF hl) r2 hq) λr s' hq'=>?_))
 cases r with
 | error e=>exact hx pins σ _ _ e s' I2 hq'
 | ok fl =>
  cases fl with
  | ret u =>
   obtain ⟨v,H',I3,rv,ev,q3⟩:=I2.after hq';subst ev;exact ⟨rv,⟨V.ref (s.heap.objs.size+1),H',I3,rfl,q3⟩⟩
  | next=>exact ca hq'
  | brk=>exact ca hq'
  | cont=>exact ca hq'
theorem Rh (M:Mk X.K C f) (F:bM X.prog X.w X.K X.mg X.base CX k f fd ps sp) (hr:aQ (k+1) X.A) (hg:Gl X x) (hm:X.mg x=some (.ref C)) (hb:Xf X.K fd ps ds) (hd:Yt aV ds) (hx:WX CX X E)
  (ha:PA X (e::es) t) (hdb:(x==("__debug__":Str))=false:=by decide) (he:θ (e::es) X.env=(false,eval e X.env)::θ es X.env:=by rfl) (hpl:(bS pos (θ es X.env)).any (·.1)=false:=by rfl) :
  PE X (.Call (.Name x p) (e::es) [] pos) (Uo C sp aV E t):=by
 intro pins s σ H Q I h;refine eW (Uj I hg hm ?_ hdb);refine fb (h₀:=X.base) I.ok.mod.jG M.kp (aA (ha pos pins s σ H _ I h) λus s1 ⟨vs,H1,I1,r,q⟩=>⟨I1.bF,?_⟩) he hpl;exact Ek M F hr hb hd hx I1 r q
theorem Ri (M:Mk X.K C f) (F:bM X.prog X.w X.K X.mg X.base CX k f fd ps sp) (hr:aQ (k+1) X.A) (hg:Gl X x) (hm:X.mg x=some (.ref C)) (hb:Xf X.K fd ps ds) (hd:Yt aV ds) (hx:WX CX X E)
  (hdb:(x==("__debug__":Str))=false:=by decide):PE X (.Call (.Name x p) [] [] pos) (Uo C sp aV E Vw):=by
 intro pins s σ H Q I h;refine eW (Uj I hg hm ?_ hdb);exact PySem.W.callWith_K0 I.bF M.kp (Ek (us:=[]) M F hr hb hd hx I .nil h)
end
structure ak (N P:List Str) (sc:db):Prop where
 kind:sc.kind = .function
 co:sc.isCoroutine=false
 gen:sc.isGenerator=false
 nd:N.Nodup
 pre:N.take P.length=P
 par:∀ x∈P,sc.names.lookup x=some .local\/sc.names.lookup x=some .cell
 vZ:∀ y∈sc.names,y.2 ≠ .free
theorem QS {kindOf:Str->Option fw} {x:Str}:∀ {binds:List (Str×Α)} {m:Str->Option Α},(∀ v,(x,v)∉binds)->bindL kindOf binds m x=m x
 | [],_,_=>rfl
 | (n,v)::r,m,h=>by
  unfold bindL;rw [QS λw hw=>h w (bp _ hw)]
  split
  ·have:x≠n:=by rintro rfl;exact h v gm
   simp [this]
  ·rfl
theorem QT {kindOf:Str->Option fw} {x:Str}:∀ {binds:List (Str×Α)} {m:Str->Option Α},(∀ v,(x,v)∉binds)->bindC kindOf binds m x=m x
 | [],_,_=>rfl
 | (n,v)::r,m,h=>by
  unfold bindC;rw [QT λw hw=>h w (bp _ hw)]
  split
  ·rfl
  ·have:x≠n:=by rintro rfl;exact h v gm
   simp [this]
theorem QU {kindOf:Str->Option fw} {x:Str} {v:Α}:∀ {P:List Str} {vs:List Α} {i:Nat} {m:Str->Option Α},P.Nodup->P[i]?=some x->vs[i]?=some v->kindOf x=some .local ->
  bindL kindOf (P.zip vs) m x=some v
 | [],_,_,_,_,h,_,_=>by simp at h
 | _::_,[],_,_,_,_,h,_=>by simp at h
 | p::P,w::vs,0,m,nd,h1,h2,hk=>by
  simp at h1 h2;subst h1;subst h2
  show bindL kindOf ((p,w)::P.zip vs) m p=_
  unfold bindL;rw [QS λv hv=>(cS.mp nd).1 (List.of_mem_zip hv).1,if_pos hk];simp
 | p::P,w::vs,i+1,m,nd,h1,h2,hk=>by
  show bindL kindOf ((p,w)::P.zip vs) m x=_
  unfold bindL;exact QU (i:=i) (cS.mp nd).2 (by simpa using h1) (by simpa using h2) hk
theorem QV {kindOf:Str->Option fw} {x:Str} {v:Α}:∀ {P:List Str} {vs:List Α} {i:Nat} {m:Str->Option Α},P.Nodup->P[i]?=some x->vs[i]?=some v->kindOf x≠some .local ->
  bindC kindOf (P.zip vs) m x=some v
 | [],_,_,_,_,h,_,_=>by simp at h
 | _::_,[],_,_,_,_,h,_=>by simp at h
 | p::P,w::vs,0,m,nd,h1,h2,hk=>by
  simp at h1 h2;subst h1;subst h2
  show bindC kindOf ((p,w)::P.zip vs) m p=_
  unfold bindC;rw [QT λv hv=>(cS.mp nd).1 (List.of_mem_zip hv).1,if_neg hk];simp
 | p::P,w::vs,i+1,m,nd,h1,h2,hk=>by
  show bindC kindOf ((p,w)::P.zip vs) m x=_
  unfold bindC;exact QV (i:=i) (cS.mp nd).2 (by simpa using h1) (by simpa using h2) hk
def Wc (N:List Str) (vs:List V):St:=vs.map some++ft (N.length - vs.length) none
def VX (CX:dU) (P:ζ) (w:ν) (K:Ι) (mg:Str->Option Α) (base:Heap) (N:List Str) (qual:Str) (scope:db) (f:Addr) (cd:Α) (A:ag) (outer:List Env) (s:Δ) (H:Hp) (E:XK):Cx where
 prog:=P
 w:=w
 K:=K
 mg:=mg
 base:=base
 A:=A.deeper (envOfC qual scope s.heap.objs.size f cd)
 N:=N
 s₀:=s
 H₀:=H
 env:=envOfC qual scope s.heap.objs.size f cd
 outer:=outer
 stack:=envOfC qual scope s.heap.objs.size f cd::outer
 ex:=[]
 calm:=true
 fn:=λ_=>true
 pn:=[]
 xe:=λe s'=>Χ (Ω P w) (A.deeper (envOfC qual scope s.heap.objs.size f cd)) (leaving (envOfC qual scope s.heap.objs.size f cd) e) (λ_ s''=>CX outer H s E e s'') (λe' s''=>CX outer H s E e' s'') s'
theorem El {sc:db} {n:Nat} {x:Str} (h:sc.names.lookup x=some .cell):∃ c,(ez n sc.names []).lookup x=some c:=by
 have q:=W.cellsFrom_some sc.names n [] (.inl h);exact Option.isSome_iff_exists.mp q
theorem Rj {CX:dU} {P:ζ} {w:ν} {K:Ι} {mg:Str->Option Α} {base:Heap} {N ps:List Str} {qual:Str} {scope:db} {f:Addr} {cd:Α} {A:ag} {outer:List Env} {s s1:Δ} {H:Hp} {E:XK} {us:List Α} {vs:List V}
  (S:ak N ps scope) (hd:A.handled=none) (e0:ig P w K mg base A outer s H) (hl:vs.length=ps.length) (r:Yt vs us)
  (x:InCallC s s.heap.objs.size (bindL (envOfC qual scope s.heap.objs.size f cd).kindOf (ps.zip us) λ_=>none) (ez (s.heap.objs.size+1) scope.names []) (bindC (envOfC qual scope s.heap.objs.size f cd).kindOf (ps.zip us) λ_=>none) s1) :
  Inv (VX CX P w K mg base N qual scope f cd A outer s H E) [] (Wc N vs) H s1:=by
 have hpl:ps.length<=N.length:=by have:=congrArg ix S.pre;rw [ay] at this;omega
 obtain ⟨h1,tk,rfl,hk⟩:=x.done;have oM:∀ b:Addr,b∉(VX CX P w K mg base N qual scope f cd A outer s H E).ex:=λb z=>absurd (show b∈([]:List Addr) from z) (by simp)
 refine ⟨⟨e0.mod,S.kind,rfl,rfl,Κ _,λy z c h1 h2=>?_,λy hy=>?_,λy c _ h=>?_,λ_=>hd,Around.frames_deeper e0.frames,.inr ⟨rfl,rfl⟩,λb z=>absurd z (oM b),e0.bs,e0.fX,λb _ _=>oM b,λb z=>absurd z (oM b),e0.dF,e0.jH⟩,
  rfl,e0.bare,Un.kept hk,⟨_,x.toInCall.ns,λi y v h1 h2 h3=>?_⟩,λy c h=>⟨_,x.cell y c h⟩,e0.hok.fresh (Κ _),λy c h=>?_,λp hp=>absurd (show p∈([]:List (Addr×Obj)) from hp) (by simp),e0.hok.kept hk,?_⟩
 ·exact name_of_addr x.apart (bv h1) (bv h2)
 ·have hy:scope.names.lookup y=some .cell\/scope.names.lookup y=some .free:=hy
  rcases hy with hy | hy
  ·exact El hy
  ·exact absurd rfl (S.vZ _ (bv hy))
 ·exact ic (x.above y c (bv h))
 ·have hi:i<vs.length:=by
   unfold Wc at h2;by_cases hi:i<vs.length
   ·exact hi
   ·rw [az (by simpa using hi)] at h2
    rw [List.getElem?_replicate] at h2
    split at h2<;>cases h2
  have ha:vs[i]?=some v:=by
   unfold Wc at h2;rw [aw (by simpa using hi),Λ] at h2
   cases e:vs[i]? with
   | none=>rw [e] at h2;cases h2
   | some a=>rw [e] at h2;cases h2;rfl
  obtain ⟨u,hu,rv⟩:=r.get ha;have hp:ps[i]?=some y:=by
   rw [<- S.pre,List.getElem?_take_of_lt (by omega)];exact h1
  have Em:ps.Nodup:=by rw [<- S.pre];exact S.nd.sublist (List.take_sublist _ _)
  refine ⟨u,rv,?_⟩;rcases S.par y (Τ hp) with k | k
  ·exact .inl ⟨k,QU Em hp hu k⟩
  ·obtain ⟨c,e⟩:=El (n:=s.heap.objs.size+1) k
   refine .inr ⟨.inl k,c,e,?_⟩;have q:=x.cell y c e;rw [QV Em hp hu (by show scope.names.lookup y≠_;rw [k];decide)] at q
   exact q
 ·exact e0.hok.fresh (ic (x.above y c (bv h)))
 ·unfold Wc
  show _=N.length
  rw [Μ,Β,d5];omega
theorem En {CX:dU} {P:ζ} {w:ν} {K:Ι} {mg:Str->Option Α} {base:Heap} {k:Nat} {f:Addr} {name qual:Str} {params:Arguments} {body:List Stmt} {scope:db} {dV kV doc pm cdv ct oc:Α} {an od:Option Addr}
  {osl:Array (Option Α)} {N ps:List Str} {sp:Sp} (lk:K.lookup f=some ⟨oc,od,.func (dv name qual params body scope dV kV doc pm an cdv ct),osl⟩) (hcd:iq K cdv qual=true) (S:ak N ps scope)
  (len:∀ vs H Q E,sp vs H Q E->vs.length=ps.length)
  (hbody:∀ (A:ag) (outer:List Env) (s:Δ) (H:Hp) (vs:List V) (Q:VK) (E:XK),aQ k (A.deeper (envOfC qual scope s.heap.objs.size f cdv))->sp vs H Q E ->
   ∃ t,eF (VX CX P w K mg base N qual scope f cdv A outer s H E) body t/\t { nx:=λ_ H'=>Q .non H',rt:=Q } (Wc N vs) H) :
  bM P w K mg base CX (k+1) f (dv name qual params body scope dV kV doc pm an cdv ct) ps sp:=by
 refine ⟨len,λA outer s H args us vs Q E hr e0 hb r hsp=>?_⟩;have hl:=len _ _ _ _ hsp;have KX:K.In s.heap:=e0.mod.jG.keeps λb o e=>(e0.bs b o e).1
 have lim:s.heap.NoLimit:=e0.mod.nolimit.keeps λb o e=>(e0.bs b o e).1
 have hkind:∀ y∈ps.zip us,scope.names.lookup y.1=some .local\/(scope.names.lookup y.1=some .cell/\((ez (s.heap.objs.size+1) scope.names []).lookup y.1).isSome=true):=λ⟨n,v⟩ hy=>by
  rcases S.par n (List.of_mem_zip hy).1 with q | q
  ·exact .inl q
  ·exact .inr ⟨q,W.cellsFrom_some _ _ _ (.inl q)⟩
 refine codeAny_call_function hr.depth (KX _ _ lk) rfl S.co S.gen rfl (W.codeRec_of KX hcd) (hb _ _ _ _ ?_);refine wpAny_newFunctionEnv_cells S.kind hkind λenv he s1 x=>?_
 subst he;refine ⟨lim.keeps x.toInCall.keep,codeAny_func ?_⟩;obtain ⟨t,ht,hq⟩:=hbody A outer s H vs Q E (hr.deeper _) hsp;have I:Inv (VX CX P w K mg base N qual scope f cdv A outer s H E) [] (Wc N vs) H s1:=Rj S hr.hd e0 hl r x;refine bb (ht [] s1 (Wc N vs) H _ I hq) (λfl s' hs=>?_) λe s' hs=>hs
 have fin:∀ {σ':St} {H':Hp} {v:V} {u:Α},Inv (VX CX P w K mg base N qual scope f cdv A outer s H E) [] σ' H' s'->YD v u->Q v H'->CE outer P w H s Q u s' :=
  λ{σ' H' v u} J rv q=>⟨v,H',J.os,J.bare,J.base,J.hok,rv,q⟩
 cases fl with
 | ret u =>
  obtain ⟨v,σ',H',J,rv,q⟩:=hs;exact fin J rv q
 | next =>
  obtain ⟨σ',H',J,q⟩:=hs;exact fin (v:=V.non) (u:=ia) J rfl q
 | brk =>
  obtain ⟨_,_,_,q⟩:=hs;exact ca q
 | cont =>
  obtain ⟨_,_,_,q⟩:=hs;exact ca q
section
variable {X:Cx} {x:Str} {p pos:Pos} {e:Expr} {es:List Expr} {t:TA} {id T:String} {r:List V->Hp->VK->Prop}
def lK (r:List V->Hp->VK->Prop) (t:TA):TE:=λσ H Q=>t σ H λvs H1=>r vs H1 Q
theorem Rk (hc:XI X (.builtin id) r) (hg:Gl X x) (hm:X.mg x=none) (hv:dn x=some (.builtin id)) (ha:PA X (e::es) t) (hn:x≠"__name__":=by decide) (hdb:(x==("__debug__":Str))=false:=by decide)
  (he:θ (e::es) X.env=(false,eval e X.env)::θ es X.env:=by rfl) (hpl:(bS pos (θ es X.env)).any (·.1)=false:=by rfl):PE X (.Call (.Name x p) (e::es) [] pos) (lK r t):=by
 intro pins s σ H Q I h;refine eW (WV I hg hm hv ?_ hn hdb);exact PyProof.Rows.callWith_builtin1 (aA (ha pos pins s σ H _ I h) λus s1 ⟨vs,H1,I1,r1,q1⟩=>hc pins s1 σ H1 vs us Q I1 r1 q1) he hpl
theorem Rm (hc:XI X (.type T) r) (hg:Gl X x) (hm:X.mg x=none) (hv:dn x=some (.type T)) (ha:PA X (e::es) t) (hn:x≠"__name__":=by decide) (hdb:(x==("__debug__":Str))=false:=by decide)
  (he:θ (e::es) X.env=(false,eval e X.env)::θ es X.env:=by rfl) (hpl:(bS pos (θ es X.env)).any (·.1)=false:=by rfl):PE X (.Call (.Name x p) (e::es) [] pos) (lK r t):=by
 intro pins s σ H Q I h;refine eW (WV I hg hm hv ?_ hn hdb);exact b8 (aA (ha pos pins s σ H _ I h) λus s1 ⟨vs,H1,I1,r1,q1⟩=>hc pins s1 σ H1 vs us Q I1 r1 q1) he hpl
end
end L2
namespace HT
open PySem PyProof.Rows
section
variable {prog:ζ} {w:ν} {A:ag} {E:Α->Δ->Prop} {s:Δ}
theorem u5 {t b:Addr} {vs ws:List Α} {Q:Α->Δ->Prop} (ht:IsTup s.heap t vs.toArray) (hb:IsTup s.heap b ws.toArray) (hv:vs≠[])
  (h1:ws=[]->Q (.ref t) s) (h2:ws≠[]->Q (.ref s.heap.objs.size) { s with heap:=s.heap.push { cls := .type "tuple",data := .seq (vs++ws).toArray } })
  (hsz:vs.length+ws.length<=sizeLine):Χ (Ω prog w) A (cw .Add (.ref t) (.ref b)) Q E s:=by
 obtain ⟨⟨cls,dd,data,sl⟩,ho,hc,n,hd⟩:=id ht;obtain ⟨⟨cls2,dd2,data2,sl2⟩,ho2,hc2,n2,hd2⟩:=id hb;simp only at hc hd hc2 hd2;subst hc hd hc2 hd2;have e:vs.toArray++ws.toArray=(vs++ws).toArray:=by simp
 by_cases hw:ws=[]
 ·exact concat_meets ⟨_,ho,rfl⟩ ⟨_,ho2,rfl⟩ noFill_tuple_add seq_tuple_add PySem.F.slot_tuple_add PySem.F.entry_tuple_add (PySem.F.args_tuple_add_2 _ _)
   (tuple_addW1 t b vs.toArray ws.toArray n n2 dd dd2 sl sl2 (by simpa using hv) (by simp [hw])) ⟨ho,ho2,h1 hw⟩
 ·refine concat_meets ⟨_,ho,rfl⟩ ⟨_,ho2,rfl⟩ noFill_tuple_add seq_tuple_add PySem.F.slot_tuple_add PySem.F.entry_tuple_add (PySem.F.args_tuple_add_2 _ _)
   (tuple_addW2 t b vs.toArray ws.toArray n n2 dd dd2 sl sl2 (by simpa using hv) (by simpa using hw) (by rw [ξ,ξ];exact hsz)) ⟨ho,ho2,?_⟩
  rw [e];exact h2 hw
def aL (n d:Nat):Option Int->Nat
 | none=>d
 | some v=>if v<0 then (v+(n:Int)).toNat else min v.toNat n
theorem rG (n d:Nat):aL n d none=d:=rfl
theorem gq (n d k:Nat):aL n d (some (k:Int))=min k n:=by
 show (if (k:Int)<0 then ((k:Int)+(n:Int)).toNat else min (k:Int).toNat n)=min k n
 rw [if_neg (by omega),bm]
theorem jP (n d:Nat) (hd:d<=n) (o:Option Int):aL n d o<=n:=by
 cases o with
 | none=>exact hd
 | some v =>
  show (if v<0 then (v+(n:Int)).toNat else min v.toNat n)<=n
  by_cases hv:v<0
  ·rw [if_pos hv];omega
  ·rw [if_neg hv];exact Nat.min_le_right _ _
theorem Eo (v:Int) (n d:Nat):(if v<0 then max (v+(n:Int)) 0 else min v (n:Int))=((aL n d (some v):Nat):Int):=by
 show (if v<0 then max (v+(n:Int)) 0 else min v (n:Int))=(((if v<0 then (v+(n:Int)).toNat else min v.toNat n):Nat):Int)
 by_cases hv:v<0
 ·simp only [if_pos hv];omega
 ·simp only [if_neg hv];omega
theorem Rn (lo hi:Option Int) (n:Nat):bP lo hi 1 (n:Int)=(((aL n 0 lo:Nat):Int),((aL n n hi:Nat):Int)):=by
 have h1:¬ ((1:Int)<0):=by omega
 unfold bP;simp only [h1,if_false];refine Prod.ext ?_ ?_
 ·cases lo with
  | none=>rfl
  | some v=>exact Eo v n 0
 ·cases hi with
  | none=>rfl
  | some v=>exact Eo v n n
theorem Ro (i j:Nat):a6 (i:Int) (j:Int) 1=j - i:=by
 unfold a6;have h1:(1:Int)>0:=by omega
 simp only [h1,if_true,gg]
 split<;>omega
theorem U0 {v:Α} {o:Option Int} {Q:Option Int->Δ->Prop} (p:IsPart v o) (h:Q o s):Χ (Ω prog w) A (Builtin.Slice.slicePartIndex v) Q E s:=by
 cases p with
 | none=>exact ip h
 | int i t=>exact slicePart_int h
theorem UE {sl:Addr} {vl vu:Α} {lo hi:Option Int} {n:Nat} {Q:Int×Int×Nat->Δ->Prop} (hs:s.heap.IsSliceOf sl vl vu .none) (pl:IsPart vl lo) (pu:IsPart vu hi)
  (h:Q (((aL n 0 lo:Nat):Int),1,aL n n hi - aL n 0 lo) s):Χ (Ω prog w) A (eh (.ref sl) (pure (n:Int))) Q E s:=by
 obtain ⟨os,hos,hcs,hds⟩:=id hs;unfold eh Builtin.Slice.sliceFields;refine Θ (Θ (gz hos hds (x:=vl) rfl (Θ (gz hos hds (x:=vu) rfl (Θ (gz hos hds (x := .none) rfl (Ν ?_)))))));refine Θ (ip ?_)
 show Χ _ _ (if ((1:Int)==0)=true then _ else _) _ _ s
 rw [if_neg (by decide)];refine Θ (U0 pl (Θ (U0 pu (Θ (Ν ?_)))))
 show Χ _ _ (match bP lo hi 1 (n:Int) with | (lo,hi)=>pure (lo,(1:Int),a6 lo hi 1)) _ _ s
 rw [Rn lo hi n]
 show Χ _ _ (pure (((aL n 0 lo:Nat):Int),(1:Int),a6 ((aL n 0 lo:Nat):Int) ((aL n n hi:Nat):Int) 1)) _ _ s
 rw [Ro];exact Ν h
theorem Rp (xs:Array Α) (i k:Nat):((η k).filterMap λ(m:Nat)=>xs[((i:Int)+(m:Int)*1).toNat]?).toArray=((xs.toList.drop i).take k).toArray:=by
 have e:(λ(m:Nat)=>xs[((i:Int)+(m:Int)*1).toNat]?)=λm=>xs[i+m]?:=by
  funext m
  have:((i:Int)+(m:Int)*1).toNat=i+m:=by omega
  rw [this]
 rw [e];have:=pick_run xs i k;rw [gs] at this
 have e2:((λx=>xs[x]?) ∘ λx=>i+x)=λm=>xs[i+m]?:=rfl
 rw [e2] at this
 rw [this]
theorem gG {t sl:Addr} {items:Array Α} {vl vu:Α} {lo hi:Option Int} {Q:Α->Δ->Prop} (ht:IsTup s.heap t items) (hs:s.heap.IsSliceOf sl vl vu .none) (pl:IsPart vl lo) (pu:IsPart vu hi)
  (hw:¬ (aL items.size 0 lo=0/\aL items.size items.size hi=items.size))
  (h:Q (.ref s.heap.objs.size) { s with heap:=s.heap.push { cls := .type "tuple",data := .seq ((items.toList.drop (aL items.size 0 lo)).take (aL items.size items.size hi - aL items.size 0 lo)).toArray } })
  (hsz:items.size<=sizeLine):Χ (Ω prog w) A (eP (.ref t) (.ref sl)) Q E s:=by
 have dN:sizeOk (.seq ((items.toList.drop (aL items.size 0 lo)).take (aL items.size items.size hi - aL items.size 0 lo)).toArray):=by
  show ((items.toList.drop (aL items.size 0 lo)).take (aL items.size items.size hi - aL items.size 0 lo)).toArray.size<=sizeLine
  rw [ξ,ay,gV,f8];omega
 have hj:aL items.size items.size hi<=items.size:=jP _ _ (Κ _) hi;obtain ⟨os,hos,hcs,hds⟩:=id hs;have hTs:s.TypeIs (.ref sl) "slice":=⟨os,hos,hcs⟩;unfold eP
 try with_reducible refine iE ?_
 first | refine Θ (Ν ?_) | skip
 refine Θ (wpAny_sequenceKey ht.typeIs (by decide) ?_);refine Θ (wpAny_callSpecial?_slot (name:=dq "__getitem__") ht.typeIs cq
  (fE cq ht.typeIs entry_tuple_getitem ?_ (args_tuple_getitem _ _)))
 show Χ _ _ (Builtin.Tuple.tupleItemsOf (.ref t) >>= _) _ _ s
 refine Θ (tupleItemsOf_ ht ?_);refine Θ (iS hTs ?_);rw [if_pos (by decide)];refine Θ (UE hs pl pu ?_);have hno:¬ ((((aL items.size 0 lo:Nat):Int)==0&&(1:Int)==1&&(aL items.size items.size hi - aL items.size 0 lo)==items.size)=true):=by
  intro q;rw [eJ,eJ] at q
  have q1:((aL items.size 0 lo:Nat):Int)=0:=eq_of_beq q.1.1;have q2:aL items.size items.size hi - aL items.size 0 lo=items.size:=eq_of_beq q.2;exact hw ⟨by omega,by omega⟩
 show Χ _ _ (if (((aL items.size 0 lo:Nat):Int)==0&&(1:Int)==1&&(aL items.size items.size hi - aL items.size 0 lo)==items.size)=true then _ else _) _ _ s
 rw [if_neg hno,Rp]
 first
  | exact Θ (m:=ba _) (bj (Ν ⟨_,rfl,Ν h⟩) dN)
  | exact Θ (m:=ba _) (bj (Θ (Ν (Ν ⟨_,rfl,Ν h⟩))) dN)
  | exact Θ (Θ (m:=ba _) (bj (Ν (Ν ⟨_,rfl,Ν h⟩)) dN))
  | exact Θ (Θ (m:=ba _) (bj (Ν ⟨_,rfl,Ν h⟩) dN))
end
end HT
namespace L2
open PySem PySem.Spec PyProof.Rows
abbrev TO:=St->Hp->(Option Int->Hp->Prop)->Prop
def PO (X:Cx) (e:Option Expr) (t:TO):Prop :=
 ∀ (pins:List (Addr×Obj)) (s:Δ) (σ:St) (H:Hp) (Q:Option Int->Hp->Prop),Inv X pins σ H s->t σ H Q ->
  Χ (Ω X.prog X.w) X.A (evalPart e X.env) (λu s'=>∃ o H',Inv X pins σ H' s'/\IsPart u o/\Q o H') X.xe s
def Qq:TO:=λ_ H Q=>Q none H
def v7 (t:TE):TO:=λσ H Q=>t σ H λx H1=>kI x λi=>Q (some i) H1
theorem Rq {ns:List Int}:∀ {us:List Α},Yt (ns.map V.int) us->IntsAre us ns:=by
 induction ns with
 | nil=>intro us r;rw [eI] at r;cases r;exact .nil
 | cons n ns ih =>
  intro us r;rw [aa] at r
  cases r with
  | cons r1 r2 =>
   obtain ⟨t,e⟩:=r1;subst e;exact .cons n t (ih r2)
section
variable {X:Cx} {e:Expr} {te:TE} {lo hi:Option Expr} {tl th:TO} {pos p2:Pos}
theorem Rr:PO X none Qq:=by
 intro pins s σ H Q I h;rw [evalPart_none];exact Ν ⟨none,H,I,.none,h⟩
theorem Qr (h:PE X e te):PO X (some e) (v7 te):=by
 intro pins s σ H Q I hw;rw [evalPart_some];refine aA (h pins s σ H _ I hw) λu s1 ⟨x,H1,I1,r1,q1⟩=>?_
 obtain ⟨i,rfl,q⟩:=Qo.mp q1;obtain ⟨t,rfl⟩:=r1;exact ⟨some i,H1,I1,.int i t,q⟩
def v8 (X:Cx) (r:V->Option Int->Option Int->Hp->VK->Prop):Prop :=
 ∀ (pins:List (Addr×Obj)) (s:Δ) (σ:St) (H:Hp) (x:V) (v vl vu:Α) (lo hi:Option Int) (sl:Addr) (Q:VK),Inv X pins σ H s->YD x v->s.heap.IsSliceOf sl vl vu .none->IsPart vl lo->IsPart vu hi->r x lo hi H Q ->
  ∃ T id,typeLookup (.type T) "__getitem__"=pure (some (.builtin id))/\s.TypeIs v T/\Χ (Ω X.prog X.w) X.A (eP v (.ref sl)) (EP X pins σ Q) X.xe s
def v9 (r:V->Option Int->Option Int->Hp->VK->Prop) (te:TE) (tl th:TO):TE:=λσ H Q=>te σ H λx H1=>tl σ H1 λl H2=>th σ H2 λu H3=>r x l u H3 Q
theorem Ep {r:V->Option Int->Option Int->Hp->VK->Prop} (hr:v8 X r) (he:PE X e te) (hl:PO X lo tl) (hu:PO X hi th):PE X (.Subscript e (.Slice lo hi none p2) pos) (v9 r te tl th):=by
 intro pins s σ H Q I h;refine Subscript_ (aA (he pins s σ H _ I h) λv s1 ⟨x,H1,I1,r1,q1⟩=>?_);refine wpAny_Slice (aA (hl pins s1 σ H1 _ I1 q1) λvl s2 ⟨l,H2,I2,pl,q2⟩=>aA (hu pins s2 σ H2 _ I2 q2) λvu s3 ⟨u,H3,I3,pu,q3⟩=>?_);rw [evalPart_none];refine Ν ?_;have I4:Inv X pins σ H3 { s3 with heap:=s3.heap.push { cls := .type "slice",data := .fields #[vl,vu,.none] } }:=I3.kept (t':=s3.toks) λb ob q=>Ρ _ q
 obtain ⟨T,id,hT,ht,hg⟩:=hr pins { s3 with heap:=s3.heap.push { cls := .type "slice",data := .fields #[vl,vu,.none] } } σ H3 x v vl vu l u s3.heap.objs.size Q I4 r1 (Heap.IsSliceOf.new ..) pl pu q3
 show Χ (Ω X.prog X.w) X.A (subscriptTail e (.Slice lo hi none p2) v (.ref s3.heap.objs.size)) (EP X pins σ Q) X.xe { s3 with heap:=s3.heap.push { cls := .type "slice",data := .fields #[vl,vu,.none] } }
 exact tail_any (ops:=[.ref s3.heap.objs.size,v]) ht hT hg (by with_unfolding_all rfl)
def UF (xs:List V) (lo hi:Option Int):List V:=(xs.drop (HT.aL xs.length 0 lo)).take (HT.aL xs.length xs.length hi - HT.aL xs.length 0 lo)
theorem Rt (xs:List V) (lo hi:Option Int):(UF xs lo hi).length<=xs.length:=by
 unfold UF;rw [ay,gV];omega
def Nj (K:Ι):V->Option Int->Option Int->Hp->VK->Prop:=λx lo hi H Q=>∃ a xs,x = .ref a/\aH K H a xs /\
 ¬ (HT.aL xs.length 0 lo=0/\HT.aL xs.length xs.length hi=xs.length)/\∀ p,H p=none->Q (.ref p) (upd H p (.tup (UF xs lo hi)))
theorem Ru:v8 X (Nj X.K):=by
 intro pins s σ H x v vl vu lo hi sl Q I rx hs pl pu h;obtain ⟨a,xs,rfl,hx,hw,q⟩:=h
 cases rx
 obtain ⟨its,r,ht,hz⟩:=I.tuple hx;have hlen:its.toArray.size=xs.length:=by rw [ξ];exact r.length.symm
 refine ⟨"tuple",_,PyProof.Rows.slot_tuple_getitem.lookup,ht.typeIs,?_⟩;refine HT.gG ht hs pl pu (by rw [hlen];exact hw) ?_ (by rw [hlen];exact hz);rw [hlen];refine ⟨.ref s.heap.objs.size,_,I.laid (t':=s.toks) (o := .tup (UF xs lo hi)) (λb ob q=>Ρ _ q) (Κ _) ?_,rfl,q _ (I.hok.fresh (Κ _))⟩;exact ⟨Ο (Rt xs lo hi) hz,_,(r.drop (HT.aL xs.length 0 lo)).take (HT.aL xs.length xs.length hi - HT.aL xs.length 0 lo),IsTup.new _ _⟩
def Cw (K:Ι):R2:=λx y H Q=>∃ a b xs ys,x = .ref a/\y = .ref b/\aH K H a xs/\aH K H b ys/\xs≠[]/\xs.length+ys.length<=sizeLine /\
 (ys=[]->Q (.ref a) H)/\(ys≠[]->∀ p,H p=none->Q (.ref p) (upd H p (.tup (xs++ys))))
theorem Yt.gw {xs:List V} {us:List Α} (r:Yt xs us):us=[]↔xs=[]:=by
 cases r with
 | nil=>simp
 | cons _ _=>simp
theorem Rv:bG X (cw .Add) (Cw X.K):=by
 intro pins s σ H x y v u Q I rx ry h;obtain ⟨a,b,xs,ys,rfl,rfl,ha,hb,hx,hz,q1,q2⟩:=h
 cases rx
 cases ry
 obtain ⟨its,r1,p1,_⟩:=I.tuple ha;obtain ⟨its2,r2,p2,_⟩:=I.tuple hb;refine HT.u5 p1 p2 (λz=>hx (r1.gw.mp z)) (λz=>⟨.ref a,H,I,rfl,q1 (r2.gw.mp z)⟩) (λz=>?_) (by rw [<- r1.length,<- r2.length];exact hz);refine ⟨.ref s.heap.objs.size,_,I.laid (t':=s.toks) (o := .tup (xs++ys)) (λb ob q=>Ρ _ q) (Κ _) ?_,rfl,q2 (λw=>z (r2.gw.mpr w)) _ (I.hok.fresh (Κ _))⟩;exact ⟨by rw [Μ];exact hz,_,r1.append r2,IsTup.new _ _⟩
end
def iG (n:Nat) (i:Int):Option Nat:=if 0<=i then (if i<n then some i.toNat else none) else if -(n:Int)<=i then some (i+n).toNat else none
def dG {α:Type} (xs:List α) (i:Int):Option α:=(iG xs.length i).bind λj=>xs[j]?
theorem Rw {n:Nat} {i:Int} {j:Nat} (h:iG n i=some j):seqIndex? i n=some j/\j<n /\ -(n:Int)<=i/\i<n:=by
 unfold iG at h;by_cases h0:0<=i
 ·rw [if_pos h0] at h
  by_cases h1:i<n
  ·rw [if_pos h1] at h
   have e:i.toNat=j:=Γ h;exact ⟨by rw [seqIndex_of h0 h1,e],by omega,by omega,h1⟩
  ·rw [if_neg h1] at h;cases h
 ·rw [if_neg h0] at h
  by_cases h1 : -(n:Int)<=i
  ·rw [if_pos h1] at h
   have e:(i+n).toNat=j:=Γ h;exact ⟨by rw [seqIndex_neg (by omega) h1,e],by omega,h1,by omega⟩
  ·rw [if_neg h1] at h;cases h
theorem Qs {α:Type} {xs:List α} {i:Int} {v:α} (h:dG xs i=some v):∃ j,seqIndex? i xs.length=some j/\xs[j]?=some v/\j<xs.length /\ -(xs.length:Int)<=i/\i<xs.length:=by
 unfold dG at h
 cases e:iG xs.length i with
 | none=>rw [e] at h;cases h
 | some j =>
  rw [e] at h
  obtain ⟨h1,h2,h3,h4⟩:=Rw e;exact ⟨j,h1,h,h2,h3,h4⟩
theorem Yo {α:Type} {xs:List α} {j:Nat} {v:α} (h:xs[j]?=some v):dG xs (j:Int)=some v:=by
 have hj:j<xs.length:=(Η.mp h).1;have e:iG xs.length (j:Int)=some j:=by
  unfold iG;rw [if_pos (by omega),if_pos (by omega)];simp
 unfold dG;rw [e];exact h
theorem Yes {α:Type} (xs:List α) (v:α):dG (xs++[v]) (-1)=some v:=by
 have hl:(xs++[v]).length=xs.length+1:=by simp
 have e:iG (xs++[v]).length (-1)=some xs.length:=by
  unfold iG;rw [hl,if_neg (by decide),if_pos (by omega)]
  congr 1
  omega
 unfold dG;rw [e]
 show (xs++[v])[xs.length]?=some v
 simp
def Rx (b:Expr):Prop:=∀ o i,subscripted b false o i=operate [o,i] (eP o i)
def lM (X:Cx) (r:R2):Prop :=
 ∀ (value slice:Expr) (pins:List (Addr×Obj)) (s:Δ) (σ:St) (H:Hp) (x y:V) (v u:Α) (Q:VK),Inv X pins σ H s->YD x v->YD y u->r x y H Q ->
  subscripted slice false v u=operate [v,u] (eP v u)->Χ (Ω X.prog X.w) X.A (subscriptTail value slice v u) (EP X pins σ Q) X.xe s
def tK (X:Cx) (id:String) (r:V->List V->Hp->VK->Prop):Prop :=
 ∀ (pins:List (Addr×Obj)) (s:Δ) (σ:St) (H:Hp) (x:V) (xs:List V) (v:Α) (us:List Α) (Q:VK),Inv X pins σ H s->YD x v->Yt xs us->r x xs H Q ->
  Χ (Ω X.prog X.w) X.A (call (.builtin id) (v::us)) (EP X pins σ Q) X.xe s
section
variable {X:Cx} {a b:Expr} {ta tb:TE} {pos:Pos}
theorem Yr {r:R2} (hr:lM X r) (ha:PE X a ta) (hb:PE X b tb) (hs:Rx b:=by exact λ_ _=>rfl):PE X (.Subscript a b pos) (lH r ta tb):=by
 intro pins s σ H Q I h;exact Subscript_ (rz ha hb I h λv u s2 x y H2 I2 rx ry q=>hr a b pins s2 σ H2 x y v u Q I2 rx ry q (hs _ _))
inductive jq (S:List V->Prop) (i:Int) (Q:V->Prop):Prop
 | mk (xs:List V) (h:S xs) (v:V) (e:dG xs i=some v) (q:Q v)
def tL (K:Ι):R2:=λx y H Q=>kR x λp=>kI y λi=>jq (ao K H p) i λv=>Q v H
theorem jq.e {S:Addr->List V->Prop} {x y:V} {Q:V->Prop} (h:kR x λp=>kI y λi=>jq (S p) i Q):∃ p xs i v,x = .ref p/\y = .int i/\S p xs/\dG xs i=some v/\Q v:=by
 obtain ⟨p,e1,h⟩:=Ve.mp h;obtain ⟨i,e2,xs,h1,v,h2,h3⟩:=Qo.mp h;exact ⟨p,xs,i,v,e1,e2,h1,h2,h3⟩
def tM (K:Ι):R2:=λx y H Q=>kR x λp=>kI y λi=>jq (aH K H p) i λv=>Q v H
def wj:R2:=λx y H Q=>∃ z i c,x = .str z/\y = .int i/\z.length<=sizeLine/\dG z.cps.toList i=some c/\Q (.str ⟨#[c]⟩) H
theorem YQ:lM X (tL X.K):=by
 intro value slice pins s σ H x y v u Q I rx ry h hs
 replace h:=jq.e h
 obtain ⟨p,xs,i,z,rfl,rfl,hq,he,q⟩:=h
 cases rx
 obtain ⟨t,rfl⟩:=ry;obtain ⟨its,r,pl,hz⟩:=I.list hq;obtain ⟨j,h1,h2,h3,h4,h5⟩:=Qs he;obtain ⟨w,ew,fK⟩:=r.get h2;have hl:=r.length;have hn:=VT;have fin:EP X pins σ Q w s:=⟨z,H,I,fK,q⟩;by_cases h0:0<=i
 ·have hj:i.toNat=j:=by
   rw [seqIndex_of h0 h5] at h1
   exact Γ h1
  exact item_listR pl.isList h0 (by omega) (by rw [hj];simpa using ew) fin hs
 ·have hj:(i+(its.toArray.size:Int)).toNat=j:=by
   rw [seqIndex_neg (by omega) h4] at h1
   rw [ξ,<- hl];exact Γ h1
  exact subscriptTail_builtinR (x:=w) pl.isList.typeIs slot_list_getitem.lookup
   (wpAny_getItem_list_neg (Q:=λr s'=>r=w/\EP X pins σ Q r s') pl.isList (by omega) (by rw [ξ]<;>omega) (by omega) (by rw [hj];simpa using ew) ⟨rfl,fin⟩) hs
theorem YC:lM X (tM X.K):=by
 intro value slice pins s σ H x y v u Q I rx ry h hs
 replace h:=jq.e h
 obtain ⟨p,xs,i,z,rfl,rfl,hq,he,q⟩:=h
 cases rx
 obtain ⟨t,rfl⟩:=ry;obtain ⟨its,r,pl,hz⟩:=I.tuple hq;obtain ⟨j,h1,h2,h3,h4,h5⟩:=Qs he;obtain ⟨w,ew,fK⟩:=r.get h2;have hl:=r.length;have hn:=VT;have fin:EP X pins σ Q w s:=⟨z,H,I,fK,q⟩;exact subscriptTail_builtinR (x:=w) pl.typeIs slot_tuple_getitem.lookup
  (getItem_tuple (j:=j) (Q:=λr s'=>r=w/\EP X pins σ Q r s') pl (by omega) (by omega) (by rw [ξ,<- hl];exact h1) (by simpa using ew) ⟨rfl,fin⟩) hs
theorem Er:lM X wj:=by
 intro value slice pins s σ H x y v u Q I rx ry h hs;obtain ⟨z,i,c,rfl,rfl,hz,he,q⟩:=h;obtain ⟨t,rfl⟩:=rx;obtain ⟨t',rfl⟩:=ry;obtain ⟨j,h1,h2,h3,h4,h5⟩:=Qs he;have hl:z.cps.toList.length=z.length:=by simp [jn]
 rw [hl] at h1 h4 h5
 have hn:=VT;exact tail_any (typeIs_str s z t) slot_str_getitem.lookup (getItem_str (c:=c) (by
  have e1:decide (i < -(2^63:Int))=false:=decide_eq_false (by omega);have e2:decide (i>=2^63)=false:=decide_eq_false (by omega);rw [e1,e2,Bool.or_false]) (by rw [h1];simpa using h2) ⟨.str ⟨#[c]⟩,H,I.tok _,⟨_,rfl⟩,q⟩) hs
def Es:V->V->V->Hp->(Hp->Prop)->Prop:=λo i v H Q=>∃ p xs k j,o = .ref p/\i = .int k/\H p=some (.lst xs)/\iG xs.length k=some j/\Q (upd H p (.lst (xs.set j v)))
inductive Ry (K:Ι) (H:Hp) (a:Addr) (Q:List V->Prop):Prop
 | mk (xs:List V) (h:ao K H a xs) (q:Q xs)
def wk (K:Ι):V->Option Int->Option Int->Hp->VK->Prop:=λx lo hi H Q=>kR x λa=>Ry K H a λxs=>∀ p,H p=none->Q (.ref p) (upd H p (.lst (UF xs lo hi)))
def W8:V->Bool
 | .non=>true
 | .bl _=>true
 | .int _=>true
 | .str _=>true
 | _=>false
def jr:V->V->Bool
 | .non,.non=>true
 | .bl a,.bl b=>a==b
 | .bl a,.int b=>(if a then 1 else 0)==b
 | .int a,.bl b=>a==(if b then 1 else 0)
 | .int a,.int b=>a==b
 | .str a,.str b=>a==b
 | _,_=>false
theorem Rz {A:ag} {s:Δ} {y x:V} {u v:Α} (ry:YD y u) (rx:YD x v) (fy:W8 y=true) (fx:W8 x=true):SeqAt.EqAt A s u v (jr y x):=by
 cases y with
 | non =>
  cases ry
  cases x with
  | non=>cases rx;exact SeqAt.EqAt.same _
  | bl b=>cases rx;exact SeqAt.EqAt.none_bool b
  | int b=>obtain ⟨t,rfl⟩:=rx;exact SeqAt.EqAt.none_int b t
  | str b=>obtain ⟨t,rfl⟩:=rx;exact SeqAt.EqAt.none_str b t
  | _=>exact absurd (show false=true from fx) ρ
 | bl a =>
  cases ry
  cases x with
  | non=>cases rx;exact SeqAt.EqAt.bool_none a
  | bl b=>cases rx;exact SeqAt.EqAt.bool_bool a b
  | int b=>obtain ⟨t,rfl⟩:=rx;exact SeqAt.EqAt.bool_int a b t
  | str b=>obtain ⟨t,rfl⟩:=rx;exact SeqAt.EqAt.bool_str a b t
  | _=>exact absurd (show false=true from fx) ρ
 | int a =>
  obtain ⟨t',rfl⟩:=ry
  cases x with
  | non=>cases rx;exact SeqAt.EqAt.int_none a t'
  | bl b=>cases rx;exact SeqAt.EqAt.int_bool a t' b
  | int b=>obtain ⟨t,rfl⟩:=rx;exact SeqAt.EqAt.int_int a t' b t
  | str b=>obtain ⟨t,rfl⟩:=rx;exact SeqAt.EqAt.int_str a t' b t
  | _=>exact absurd (show false=true from fx) ρ
 | str a =>
  obtain ⟨t',rfl⟩:=ry
  cases x with
  | non=>cases rx;exact SeqAt.EqAt.str_none a t'
  | bl b=>cases rx;exact SeqAt.EqAt.str_bool a t' b
  | int b=>obtain ⟨t,rfl⟩:=rx;exact SeqAt.EqAt.str_int a t' b t
  | str b=>obtain ⟨t,rfl⟩:=rx;exact SeqAt.EqAt.str_str a t' b t
  | _=>exact absurd (show false=true from fx) ρ
 | _=>exact absurd (show false=true from fy) ρ
def iH (x:V) (u:Α):Bool:=match u with
 | .none=>jr .non x
 | .bool b=>jr (.bl b) x
 | .int i _=>jr (.int i) x
 | .str z _=>jr (.str z) x
 | _=>false
theorem Et {x y:V} {u:Α} (r:YD y u) (f:W8 y=true):iH x u=jr y x:=by
 cases y with
 | non=>cases r;rfl
 | bl b=>cases r;rfl
 | int i=>obtain ⟨t,rfl⟩:=r;rfl
 | str z=>obtain ⟨t,rfl⟩:=r;rfl
 | _=>exact absurd (show false=true from f) ρ
theorem Qt {x:V}:∀ {xs:List V} {us:List Α},Yt xs us->xs.all W8=true->us.any (iH x)=xs.any λy=>jr y x
 | _,_,.nil,_=>rfl
 | y::xs,u::us,.cons r t,f=>by
  rw [List.all_cons,eJ] at f
  rw [List.any_cons,List.any_cons,Et r f.1,Qt t f.2]
theorem UG {A:ag} {s:Δ} {x:V} {v:Α} (rx:YD x v) (fx:W8 x=true):∀ {xs:List V} {us:List Α},Yt xs us->xs.all W8=true->∀ u∈us,SeqAt.EqAt A s u v (iH x u)
 | _,_,.nil,_=>λu hu=>by cases hu
 | y::xs,u::us,.cons r t,f=>λu' hu=>by
  rw [List.all_cons,eJ] at f
  rcases Φ.mp hu with rfl | hu
  ·rw [Et r f.1];exact Rz r rx f.1 fx
  ·exact UG rx fx t f.2 u' hu
def inV (x:V) (xs:List V):Bool:=xs.any λy=>jr y x
def wu (K:Ι) (neg:Bool):R2:=λx y H Q=>∃ p xs,y = .ref p/\(ao K H p xs\/aH K H p xs)/\W8 x=true/\xs.all W8=true/\Q (.bl (if neg then !inV x xs else inV x xs)) H
theorem RB:bG X (da .In) (wu X.K false):=by
 intro pins s σ H x y v u Q I rx ry h;obtain ⟨p,xs,rfl,hq,fx,fs,q⟩:=h
 cases ry
 rcases hq with hq | hq
 ·obtain ⟨its,r,pl,hz⟩:=I.list hq
  refine SeqAt.in_listAt (iH x) pl.isList (λw hw=>UG rx fx r fs w (by simpa using hw)) ⟨.bl _,H,I,rfl,?_⟩;rw [show its.toArray.any (iH x)=its.any (iH x) by simp,Qt r fs];exact q
 ·obtain ⟨its,r,pl,hz⟩:=I.tuple hq
  refine SeqAt.in_tupleAt (iH x) pl (λw hw=>UG rx fx r fs w (by simpa using hw)) ⟨.bl _,H,I,rfl,?_⟩;rw [show its.toArray.any (iH x)=its.any (iH x) by simp,Qt r fs];exact q
inductive mZ (K:Ι) (H:Hp) (p:Addr) (Q:Int->Prop):Prop
 | mk (ys:List V) (h:ao K H p ys\/aH K H p ys) (q:Q ys.length)
def tO (K:Ι):List V->Hp->VK->Prop:=λxs H Q=>k1 xs λx=>kR x λp=>mZ K H p λn=>Q (.int n) H
theorem YL:XI X (.builtin "len") (tO X.K):=by
 intro pins s σ H xs us Q I r h;obtain ⟨x,rfl,h1⟩:=vh h;obtain ⟨p,rfl,ys,hq,q⟩:=Ve.mp h1;obtain ⟨u,rfl,rx⟩:=Wx r
 cases rx
 have hn:=VT;rcases hq with hq | hq
 ·obtain ⟨its,r',pl,hz⟩:=I.list hq
  have hlen:=r'.length;exact Calls.call_len_list pl.isList (by simp only [ξ]<;>omega) ⟨.int ys.length,H,I.tok _,⟨s.toks+1,by rw [ξ,hlen]⟩,q⟩
 ·obtain ⟨its,r',pl,hz⟩:=I.tuple hq
  have hlen:=r'.length;exact len_tuple pl (by simp only [ξ]<;>omega) ⟨.int ys.length,H,I.tok _,⟨s.toks+1,by rw [ξ,hlen]⟩,q⟩
theorem WY:XI X (.builtin "len") (λxs H Q=>∃ z,xs=[.str z]/\z.length<=sizeLine/\Q (.int z.length) H):=by
 intro pins s σ H xs us Q I r h;obtain ⟨z,rfl,hz,q⟩:=h;obtain ⟨u,rfl,t,rfl⟩:=Wx r;have hn:=VT;exact len_str (by omega) ⟨.int z.length,H,I.tok _,⟨_,rfl⟩,q⟩
theorem VY:XI X (.type "list") (λxs H Q=>∃ p ys,xs=[.ref p]/\(ao X.K H p ys\/aH X.K H p ys)/\∀ l,H l=none->Q (.ref l) (upd H l (.lst ys))):=by
 intro pins s σ H xs us Q I r h;obtain ⟨p,ys,rfl,hq,q⟩:=h;obtain ⟨u,rfl,rx⟩:=Wx r
 cases rx
 have fin:∀ (its:List Α),Yt ys its->ys.length<=sizeLine->∀ (h':Heap) (c':Nat),(∀ b o',s.heap.get? b=some o'->h'.get? b=some o') ->
   h'.get? s.heap.objs.size=some { cls := .type "list",dict:=none,data := .seq its.toArray c',slots:=#[] }->EP X pins σ Q (.ref s.heap.objs.size) { s with heap:=h' }:=λits r' hz h' c' kp e =>
  ⟨.ref s.heap.objs.size,_,I.laid (t':=s.toks) kp (Κ _) (show YV X.prog X.w _ h' _ (.lst ys) from ⟨hz,its,c',r',e⟩),rfl,q _ (I.hok.fresh (Κ _))⟩
 rcases hq with hq | hq
 ·obtain ⟨its,r',pl,hz⟩:=I.list hq
  have hlen:=r'.length;obtain ⟨o,ho,hc,n,hd⟩:=pl.isList;exact call_list_seq p (.inl rfl) ho hc hd (λh' c' kp e=>fin its r' hz h' c' kp e) (by simp only [ξ]<;>omega)
 ·obtain ⟨its,r',pl,hz⟩:=I.tuple hq
  have hlen:=r'.length;obtain ⟨o,ho,hc,n,hd⟩:=pl;exact call_list_seq p (.inr rfl) ho hc hd (λh' c' kp e=>fin its r' hz h' c' kp e) (by simp only [ξ]<;>omega)
theorem Q9:XI X (.type "tuple") (λxs H Q=>∃ p ys,xs=[.ref p]/\((ao X.K H p ys/\∀ l,H l=none->Q (.ref l) (upd H l (.tup ys)))\/(aH X.K H p ys/\Q (.ref p) H))):=by
 intro pins s σ H xs us Q I r h;obtain ⟨p,ys,rfl,h⟩:=h;obtain ⟨u,rfl,rx⟩:=Wx r
 cases rx
 rcases h with ⟨hq,q⟩ | ⟨hq,q⟩
 ·obtain ⟨its,r',pl,hz⟩:=I.list hq
  have hlen:=r'.length;refine call_tuple_list pl.isList (λh' kp=>?_) (by simp only [ξ]<;>omega);have I1:Inv X pins σ H { s with heap:=h' }:=I.kept (t':=s.toks) kp;have I2:Inv X pins σ (upd H h'.objs.size (.tup ys)) { s with heap:=h'.push { cls := .type "tuple",data := .seq its.toArray } } :=
   I1.laid (t':=s.toks) (λb o e=>Ρ _ e) (Κ _) (show YV X.prog X.w _ _ _ (.tup ys) from ⟨hz,its,r',IsTup.new _ _⟩)
  exact ⟨.ref h'.objs.size,_,I2,rfl,q _ (I1.hok.fresh (Κ _))⟩
 ·obtain ⟨its,r',pl,hz⟩:=I.tuple hq
  exact call_tuple_same pl ⟨.ref p,H,I,rfl,q⟩
def wz (K:Ι) (T:String) (x:V) (H:Hp):Prop:=match x with
 | .str _=>T="str"
 | .int _=>T="int"
 | .ref p=>(T="list"/\∃ xs,ao K H p xs)\/(T="tuple"/\∃ o,K.lookup p=some o/\o.cls = .type "tuple"/\o.dict=none) \/
   (T="dict"/\((∃ kvs,H p=some (.dK kvs))\/∃ kvs,H p=some (.dT kvs)))\/(T="set"/\∃ S n,H p=some (.set S n))
 | _=>False
theorem Eu {pins:List (Addr×Obj)} {σ:St} {H:Hp} {s:Δ} {T:String} {x:V} {v:Α} (I:Inv X pins σ H s) (r:YD x v) (ty:wz X.K T x H) :
  s.TypeIs v T/\∀ a,v = .ref a->∃ ob,s.heap.get? a=some ob/\ob.dict=none:=by
 cases x with
 | str z =>
  obtain ⟨t,rfl⟩:=r
  cases (show T="str" from ty)
  exact ⟨typeIs_str s z t,λ_ e=>nomatch e⟩
 | int i =>
  obtain ⟨t,rfl⟩:=r
  cases (show T="int" from ty)
  exact ⟨typeIs_int s i t,λ_ e=>nomatch e⟩
 | ref p =>
  cases r
  rcases ty with ⟨rfl,xs,hq⟩ | ⟨rfl,o,hk,hc,hd⟩ | ⟨rfl,hk⟩ | ⟨rfl,S,n,hk⟩
  ·obtain ⟨its,_,pl,_⟩:=I.list hq
   refine ⟨pl.isList.typeIs,λa e=>?_⟩
   cases e
   obtain ⟨o,n,e,c,hd,_⟩:=pl;exact ⟨o,e,hd⟩
  ·refine ⟨⟨o,I.bF p o hk,hc⟩,λa e=>?_⟩
   cases e
   exact ⟨o,I.bF _ o hk,hd⟩
  ·have z:∃ o,s.heap.get? p=some o/\o.ExactDict:=by
    rcases hk with ⟨kvs,hk⟩ | ⟨kvs,hk⟩
    ·obtain ⟨_,_,_,_,o,_,_,e,ex,_⟩:=I.hok p _ hk
     exact ⟨o,e,ex⟩
    ·obtain ⟨_,_,_,_,o,_,_,e,ex,_⟩:=I.hok p _ hk
     exact ⟨o,e,ex⟩
   obtain ⟨o,e,ex⟩:=z;refine ⟨⟨o,e,ex.1⟩,λa e2=>?_⟩
   cases e2
   exact ⟨o,e,ex.2.1⟩
  ·obtain ⟨o,_,_,_,e,ex,_⟩:=I.hok p _ hk
   refine ⟨⟨o,e,ex.1⟩,λa e2=>?_⟩
   cases e2
   exact ⟨o,e,ex.2.1⟩
 | _=>exact ca ty
def rH (K:Ι) (T:String) (r:V->List V->Hp->VK->Prop) (to:TE):TE:=λσ H Q=>to σ H λx H1=>wz K T x H1/\r x [] H1 Q
def tQ (K:Ι) (T:String) (r:V->List V->Hp->VK->Prop) (to:TE) (t:TA):TE:=λσ H Q=>to σ H λx H1=>wz K T x H1/\t σ H1 λxs H2=>r x xs H2 Q
variable {o e:Expr} {es:List Expr} {to:TE} {t:TA} {name:Str} {apos cpos:Pos} {T id:String} {r:V->List V->Hp->VK->Prop}
theorem RD (pa:PlainAttrs T) (slot:Slot T name id) (hty:typeOf (.builtin id)=pure (.type "method_descriptor")) (hm:tK X id r) (ho:PE X o to)
  (hbase:fI o name X.env (eval o X.env)=eval o X.env) (hline:(apos.endLine==cpos.line)=true):PE X (.Call (.Attribute o name apos) [] [] cpos) (rH X.K T r to):=by
 intro pins s σ H Q I h;refine wpAny_Call_method0_late hbase hline (aA (ho pins s σ H _ I h) λv s1 ⟨x,H1,I1,r1,ty,q1⟩=>?_);obtain ⟨h1,h2⟩:=Eu I1 r1 ty;exact ⟨T,id,pa,slot,hty,h1,h2,Calls.callWith_builtin rfl (PySem.evalArgs_none (hm pins s1 σ H1 x [] v [] Q I1 r1 .nil q1))⟩
theorem Wy (pa:PlainAttrs T) (slot:Slot T name id) (hty:typeOf (.builtin id)=pure (.type "method_descriptor")) (hm:tK X id r) (ho:PE X o to) (ha:PA X (e::es) t)
  (hbase:fI o name X.env (eval o X.env)=eval o X.env:=by rfl)
  (hfew:((bS cpos (θ (e::es) X.env)).all (λx => !x.1)&&(iP cpos (gE [] X.env)).all (λx=>x.1.isSome)
   && decide ((e::es).length+([]:List Keyword).length+(if ([]:List Keyword).isEmpty then 0 else 1)<30))=true:=by rfl)
  (hline:(apos.endLine==cpos.line)=true:=by rfl) (hs:θ (e::es) X.env=(false,eval e X.env)::θ es X.env:=by rfl) (hplain:(bS cpos (θ es X.env)).any (·.1)=false:=by rfl) :
  PE X (.Call (.Attribute o name apos) (e::es) [] cpos) (tQ X.K T r to t):=by
 intro pins s σ H Q I h;refine wpAny_Call_method_late hbase hfew hline rfl (aA (ho pins s σ H _ I h) λv s1 ⟨x,H1,I1,r1,ty,q1⟩=>?_);obtain ⟨h1,h2⟩:=Eu I1 r1 ty;refine ⟨T,id,pa,slot,hty,h1,h2,?_⟩;have hA:=ha cpos pins s1 σ H1 _ I1 q1;rw [hs] at hA ⊢
 refine Calls.callWith_builtin (by show (false||(bS cpos (θ es X.env)).any (·.1))=false;rw [hplain]<;>rfl) (Calls.evalArgs_plain ?_);exact aA hA λus s2 ⟨vs,H2,I2,r2,q2⟩=>hm pins s2 σ H2 x vs v us Q I2 r1 r2 q2
/- xs.append(e),list.index on a module's tuple .. are tK facts of 06m -/
end
def wA (X:Cx) (id:String) (r:V->List V->Hp->VK->Prop):Prop :=
 ∀ (pins:List (Addr×Obj)) (s:Δ) (σ:St) (H:Hp) (x:V) (xs:List V) (v:Α) (us:List Α) (Q:VK),Inv X pins σ H s->YD x v->Yt xs us->r x xs H Q ->
  Χ (Ω X.prog X.w) X.A (call (.builtin id) (v::us)) (EP X pins σ Q) X.xe s
theorem Yt.one:∀ {x:V} {us:List Α},Yt [x] us->∃ u,us=[u]/\YD x u
 | _,_,.cons r .nil=>⟨_,rfl,r⟩
theorem Yt.zero:∀ {us:List Α},Yt [] us->us=[]
 | _,.nil=>rfl
theorem Yt.reverse {xs:List V} {us:List Α} (h:Yt xs us):Yt xs.reverse us.reverse:=by
 induction h with
 | nil=>exact .nil
 | cons r t ih=>rw [List.reverse_cons,List.reverse_cons];exact Yt.append ih (.cons r .nil)
section
variable {X:Cx} {pins:List (Addr×Obj)} {σ:St} {H:Hp} {s:Δ} {l b:Addr} {xs ys zs:List V}
theorem Inv.rJ {its its':List Α} {n:Nat} {f:Array Α->Array Α} {t':Nat} (I:Inv X pins σ H s) (hH:H l=some (.lst xs))
  (e:s.heap.get? l=some { cls := .type "list",data := .seq its.toArray n }) (hf:f its.toArray=its'.toArray) (hv:Yt ys its') (hz:ys.length<=sizeLine) :
  Inv X pins σ (upd H l (.lst ys)) { s with heap:=s.heap.update l (Obj.mapSeq f),toks:=t' }:=by
 have q:=PySem.IsL.update e f;rw [hf] at q
 refine I.write (x:=l) (e:=l) (by rw [hH];exact trivial) (.inl rfl) (λb' u hb hu=>(Heap.get?_update_other s.heap (Obj.mapSeq f) (am hb)).trans hu) ⟨_,q⟩ ?_;exact ⟨hz,its',_,hv,q⟩
theorem Inv.rK {its:List Α} {t':Nat} (I:Inv X pins σ H s) (hv:Yt ys its) (hz:ys.length<=sizeLine) :
  Inv X pins σ (upd H s.heap.objs.size (.lst ys)) { s with heap:=s.heap.push { cls := .type "list",data := .seq its.toArray },toks:=t' } :=
 I.laid (λ_ _ q=>Ρ _ q) (Κ _) ⟨hz,its,0,hv,ah _ rfl⟩
theorem Inv.fresh (I:Inv X pins σ H s):H s.heap.objs.size=none:=I.hok.fresh (Κ _)
theorem Inv.jk (I:Inv X pins σ H s) (hH:H l=some (.lst xs)):xs.length<=sizeLine/\∃ (its:List Α) (n:Nat),Yt xs its/\xs.length=its.length/\s.heap.get? l=some { cls := .type "list",data := .seq its.toArray n }:=by
 obtain ⟨z,its,n,r,e⟩:=I.hok l _ hH;exact ⟨z,its,n,r,r.length,e⟩
theorem RG {n:Nat} (h:n<=sizeLine):Builtin.List.listTooLong n=false:=by
 unfold Builtin.List.listTooLong;exact decide_eq_false (by omega)
end
section
variable {X:Cx}
inductive Nk (H:Hp) (l:Addr) (Q:List V->Prop):Prop
 | mk (xs:List V) (h:H l=some (.lst xs)) (hz:xs.length<sizeLine) (q:Q xs)
def Qu:V->List V->Hp->VK->Prop:=λx vs H Q=>kR x λl=>k1 vs λy=>Nk H l λxs=>Q .non (upd H l (.lst (xs++[y])))
theorem Xm:wA X "list.append" Qu:=by
 intro pins s σ H x vs v us Q I rx rv h;obtain ⟨l,rfl,h1⟩:=Ve.mp h;obtain ⟨y,rfl,xs,hH,hz,q⟩:=vh h1
 cases rx
 obtain ⟨u,rfl,ru⟩:=rv.one;obtain ⟨z,its,n,r,hl,e⟩:=I.jk hH;refine call_meets eL ⟨_,e,rfl⟩ F.entry_list_append (F.args_list_append_2 _ _) (PySem.list_append l its.toArray n u (by rw [ξ];omega)) ⟨e,?_⟩;refine ⟨.non,_,I.rJ (its':=its++[u]) hH e (by simp) (r.append (.cons ru .nil)) ?_,rfl,q⟩;rw [Μ,av];omega
def Ew:V->List V->Hp->VK->Prop:=λx vs H Q=>∃ l b xs zs,x = .ref l/\vs=[.ref b]/\H l=some (.lst xs)/\H b=some (.lst zs)/\xs.length+zs.length<=sizeLine/\Q .non (upd H l (.lst (xs++zs)))
theorem RJ:wA X "list.extend" Ew:=by
 intro pins s σ H x vs v us Q I rx rv h;obtain ⟨l,b,xs,zs,rfl,rfl,hH,hB,hz,q⟩:=h
 cases rx
 obtain ⟨u,rfl,ru⟩:=rv.one
 cases ru
 obtain ⟨z,its,n,r,hl,e⟩:=I.jk hH;obtain ⟨z2,its2,n2,r2,hl2,e2⟩:=I.jk hB;have hsz:its.toArray.size+its2.toArray.size<=sizeLine:=by rw [ξ,ξ];omega
 have Cy:¬ (!its.toArray.isEmpty&&Builtin.List.listTooLong (its.toArray.size+its2.toArray.size))=true:=by
  rw [RG hsz,Bool.and_false];exact ρ
 refine call_meets F.slot_list_extend ⟨_,e,rfl⟩ F.entry_list_extend (F.args_list_extend_2 _ _)
  (AutoSeq1.list_extend_list_list_0 l its.toArray n b its2.toArray n2 Cy (by rw [ξ];omega) (by omega)) ⟨e,e2,?_⟩
 refine ⟨.non,_,I.rJ (its':=its++its2) hH e (by simp) (r.append r2) ?_,rfl,q⟩;rw [Μ];omega
def UH:V->List V->Hp->VK->Prop:=λx vs H Q=>∃ l xs,x = .ref l/\vs=[]/\H l=some (.lst xs)/\Q .non (upd H l (.lst xs.reverse))
theorem RL:wA X "list.reverse" UH:=by
 intro pins s σ H x vs v us Q I rx rv h;obtain ⟨l,xs,rfl,rfl,hH,q⟩:=h
 cases rx
 have hus:=rv.zero;subst hus;obtain ⟨z,its,n,r,hl,e⟩:=I.jk hH;refine call_meets F.slot_list_reverse ⟨_,e,rfl⟩ F.entry_list_reverse (F.args_list_reverse_1 _) (AutoSeq1.list_reverse_list_0 l its.toArray n (by rw [ξ];omega)) ⟨e,?_⟩;refine ⟨.non,_,I.rJ (its':=its.reverse) hH e (by simp) r.reverse ?_,rfl,q⟩;rw [bz];omega
inductive Nm (H:Hp) (l b:Addr) (Q:List V->List V->Prop):Prop
 | mk (xs:List V) (h:H l=some (.lst xs)) (zs:List V) (h':H b=some (.lst zs)) (hz:xs.length+zs.length<=sizeLine) (q:Q xs zs)
def rM:R2:=λx y H Q=>kR x λl=>kR y λb=>Nm H l b λxs zs=>∀ p,H p=none->Q (.ref p) (upd H p (.lst (xs++zs)))
theorem VZ:bG X (cw .Add) rM:=by
 intro pins s σ H x y v u Q I rx ry h;obtain ⟨l,rfl,h1⟩:=Ve.mp h;obtain ⟨b,rfl,xs,hH,zs,hB,hz,q⟩:=Ve.mp h1
 cases rx
 cases ry
 obtain ⟨z,its,n,r,hl,e⟩:=I.jk hH;obtain ⟨z2,its2,n2,r2,hl2,e2⟩:=I.jk hB;refine PySem.P.add_list e e2 ?_ (by rw [ξ,ξ];omega);have ea:its.toArray++its2.toArray=(its++its2).toArray:=by simp
 rw [ea];exact ⟨.ref _,_,I.rK (t':=s.toks) (r.append r2) (by rw [Μ];omega),rfl,q _ I.fresh⟩
end
end L2
namespace Ey
open PySem PySem.W PySem.Calls PyProof.Rows
theorem U4 {P:Params} {h:Heap}:∀ (ns:List Int) (vs:List Α),WellAll P h vs (ns.map WData.int)->IntsAre vs ns:=by
 intro ns
 induction ns with
 | nil =>
  intro vs w;rw [eI] at w
  cases w
  exact .nil
 | cons n ns ih =>
  intro vs w;rw [aa] at w
  cases w with
  | cons a b =>
   cases a
   exact .cons _ _ (ih _ b)
theorem RM {l:OpenLaw} {n:Nat} (hn:l.most=some n) {P:Params} {h:Heap} {args:List WData} {vals:List Α}
  (hpre:l.row.toRowW.claim.pre args=true) (hwl:WellAll P h vals args) :
  ∃ a vs ns,vals=[ω a]/\args=[WData.list (ns.map WData.int)]/\h.get? a=some { cls := .type "list",data := .seq vs.toArray }/\IntsAre vs ns/\ns.length<=n:=by
 have hsh:WShape.hasAll [] args [.list .int]=true:=(pre_splitW hpre).1;have hc:l.pre.holds [] { args:=args }=true:=(pre_splitW hpre).2;obtain ⟨d,r,rfl,h1,h2⟩:=hasAllW_cons hsh;obtain rfl:=hasAllW_nil h2;obtain ⟨xs,rfl,h3⟩:=hasW_list h1;obtain ⟨ns,rfl⟩:=items_int h3;have hlen:ns.length<=n:=by
  unfold OpenLaw.pre at hc;have h4:(WTm.not (.lt (.lit (.int (n:Int))) (.len (.arg 0)))).holds [] { args:=[.list (ns.map .int)] }=true:=by
   have h4:=(holds_andW hc).1;rw [hn] at h4
   exact h4
  have h5:=condW_of h4 (w_not (w_lt w_lit (w_len_list (w_arg rfl))));rw [Β] at h5
  refine Nat.le_of_not_lt λq=>?_
  have q':(n:Int)<((ns.length:Nat):Int):=by omega
  first
   | (rw [decide_eq_true q'] at h5;exact absurd h5 (by decide))
   | (simp at h5;omega)
 cases hwl with
 | cons w1 w2 =>
  cases w2
  cases w1 with
  | list ho hall=>exact ⟨_,_,ns,rfl,rfl,ho,U4 ns _ hall,hlen⟩
theorem RN (l:OpenLaw) (args:List WData):l.row.toRowW.claim.post args (.bool true) args=true :=
 postW_of (r:=l.row.toRowW) (X:=(true==true))
  (show WShape.has [] (.bool true) .bool=true by first | rfl | decide | simp [WShape.has,WShape.arms,WShape.armsAll])
  (show (WTm.eq .res (.lit (.bool true))).value [] { args:=args,res:=some (.bool true),after:=args }=some (.bool (true==true)) from w_eq_bool (w_res rfl) w_lit) rfl
theorem lu {l:OpenLaw} {n:Nat} {q:ζ} {loose:List Str} {XP:(Str->Option Α)->Heap->Prop} {YP:ν->Heap->Prop} {d:DefRec}
  (hn:l.most=some n) (hdf:d.params.defaults=[])
  (call:∀ (w:ν) (s₀ s₁:Δ) (mg mb:Str->Option Α) (fa:Addr) (o:Obj) (pm cd doc:Α) (a:Addr) (vs:List Α) (ns:List Int),
   Ground q loose [] XP w s₀ mg mb s₁.heap->YP w s₁.heap ->
   s₁.heap.get? fa=some o->o.data = .func (docDef d.name d.params d.body d.scope pm cd doc)->s₁.heap.CodeRec cd d.name->mg d.name=some (.ref fa) ->
   s₁.heap.get? a=some { cls := .type "list",data := .seq vs.toArray }->IntsAre vs ns->ns.length<=n->s₁.gens=#[] ->
   fN (Ω l.prog w) io (.call (.ref fa) ⟨[.ref a],[]⟩) (λr s'=>r = .ok (.ret (.bool true))/\OldK s₁.heap s'.heap/\s'.os=s₁.os/\hV s'.gens) s₁) :
  WalkO q loose XP YP l.row.toRowW d [] (λf vs=>PySem.call f vs):=by
 intro w s₀ s₁ mg mb G Y fa o pm cd doc dV kV ho hd hcd hD hmg hg args vals as hpre hlay hrd hwl hlo;obtain rfl:dV = .none:=Dflts.none hD hdf;obtain rfl:kV = .none:=Dflts.noKw hD;obtain ⟨a,vs,ns,rfl,rfl,hobj,hints,hlen⟩:=RM hn hpre hwl;refine enter_call (iX (call w s₀ s₁ mg mb fa o pm cd doc a vs ns G Y ho (fd_plain hd) hcd hmg hobj hints hlen hg) λr s' hq=>?_);obtain ⟨rfl,h2,h3,h4⟩:=hq;exact ⟨.inl ⟨.bool true,.bool true,[],rfl,λ_=>rfl,.bool true,RN l _,λ_=>⟨List.Pairwise.nil,λ_ hm=>(nomatch hm)⟩⟩,h2,h3,h4⟩
section
variable {prog:ζ} {w:ν} {A:ag} {E:Α->Δ->Prop} {s:Δ} {K:Frag}
def ledger (h:Heap) (L d:Addr):List (Addr×Obj):=(η h.objs.size).filterMap λa=>if a=L\/a=d then none else (h.get? a).map λo=>(a,o)
end
end Ey
namespace L2
open PySem PySem.Spec PyProof.Rows
theorem QW:∀ {vs:List Α} {ns:List Int},IntsAre vs ns->Yt (ns.map V.int) vs
 | _,_,.nil => .nil
 | _,_,.cons n t h => .cons ⟨t,rfl⟩ (QW h)
def Only (H:Hp):Prop:=∀ b,H b=none\/∃ o xs,H b=some (.dO o (.lst xs))
theorem RP {P:ζ} {w:ν} {K:Ι} {mg mb:Str->Option Α} {CX:dU} {k:Nat} {fa a:Addr} {fd:fh} {x:Str} {sp:Sp} {s₁:Δ} {vs:List Α} {ns:List Int}
  (KX:K.In s₁.heap) (hns:s₁.heap.Ns aE mg) (hb:s₁.heap.Ns builtinsNs mb) (hbb:∀ x:Str,x≠"__name__"->mb x=dn x) (hlim:s₁.heap.NoLimit) (hg:s₁.gens=#[])
  (ha:s₁.heap.get? a=some { cls := .type "list",data := .seq vs.toArray }) (hi:IntsAre vs ns) (hl:ns.length<=sizeLine) (hr:aQ k io)
  (F:∀ base:Heap,K.In base->base.Ns aE mg->bM P w K mg base CX k fa fd [x] sp) (hbind:∀ (s:Δ) (u:Α),BindsTo s fd ⟨[u],[]⟩ [(x,u)])
  (hsp:∀ H:Hp,Only H->ao K H a (ns.map V.int)->sp [.ref a] H (λv _=>v = .bl true) λ_ _ _=>False)
  (wB:∀ H e s',CX [] H s₁ (λ_ _ _=>False) e s'->False) :
  fN (Ω P w) io (.call (.ref fa) ⟨[.ref a],[]⟩) (λr s'=>r = .ok (.ret (.bool true))/\OldK s₁.heap s'.heap/\s'.os=s₁.os/\hV s'.gens) s₁:=by
 have rv:=QW hi;have lenV:=hi.length
 -- from an abstract heap in which nothing but the script may be tracked
 have core:∀ H:Hp,Only H->ao K H a (ns.map V.int)->bD P w H s₁.heap->(∀ b,H b≠none->b=a)->(H a≠none->K.lookup a=none) ->
   fN (Ω P w) io (.call (.ref fa) ⟨[.ref a],[]⟩) (λr s'=>r = .ok (.ret (.bool true))/\OldK s₁.heap s'.heap/\s'.os=s₁.os/\hV s'.gens) s₁:=by
  intro H hO hS hok hA hK;have lN:∀ {b:Addr} {o:Obj},s₁.heap.get? b=some o->H b=none->(Vr s₁.heap H).get? b=some o:=λe n=>Ow e n
  have oM:∀ {b:Addr} {o:Obj} {es:Array DictEntry} {ep:Nat},s₁.heap.get? b=some o->o.data = .dict es ep->H b=none:=λ{b o es ep} e d=>by
   cases q:H b with
   | none=>rfl
   | some u =>
    have e':b=a:=hA b (by rw [q];simp);subst e';rw [ha] at e;cases e
    have d':Data.seq vs.toArray _=Data.dict es ep:=d
    cases d'
  have tR:∀ {b:Addr} {m:Str->Option Α},s₁.heap.Ns b m->(Vr s₁.heap H).Ns b m:=λ{b m} ⟨o,es,ep,e,d,r⟩=>⟨o,es,ep,lN e (oM e d),d,r⟩
  have Ez:K.In (Vr s₁.heap H):=λb o e=>lN (KX b o e) (by
   cases q:H b with
   | none=>rfl
   | some u =>
    have e':b=a:=hA b (by rw [q];simp);subst e';rw [hK (by rw [q];simp)] at e;cases e)
  have hM:Mod K mg (Vr s₁.heap H):=⟨Ez,tR hns,⟨mb,tR hb,hbb⟩,let ⟨mc,h1,h2⟩:=hlim;⟨mc,tR h1,h2⟩⟩;have e0:ig P w K mg (Vr s₁.heap H) io [] s₁ H:=⟨rfl,hM,λb o e=>Ox e,i5 (Ov _ _),trivial,λb hb=>absurd (show b∈([]:List Addr) from hb) (by simp),hok,.of_eq hg⟩;refine iX ((F _ Ez (tR hns)).run io [] s₁ H ⟨[.ref a],[]⟩ [.ref a] [.ref a] _ _ hr e0 (hbind s₁ (.ref a)) (.cons rfl .nil) (hsp H hO hS)) λr s' h=>?_
  cases r with
  | error e=>exact (wB H e s' h).elim
  | ok fl =>
   cases fl with
   | next=>exact ca h
   | brk=>exact ca h
   | cont=>exact ca h
   | ret u =>
    obtain ⟨v,H',os,bare,un,hok',r',q⟩:=h;have q':v = .bl true:=q;subst q';obtain rfl:u=jj true:=r';refine ⟨rfl,OldK.of_keep λb o e=>?_,os,bare⟩
    cases q:H b with
    | none=>exact un.keep b o e q (by intro z;exact absurd (show b∈([]:List Addr) from z) (by simp)) (by simp)
    | some u =>
     rcases hO b with z | ⟨ob,xs,z⟩
     ·rw [q] at z;cases z
     ·have z2:=un.dR b ob _ z
      obtain ⟨e1,_⟩:=hok b _ z;obtain ⟨e2,_⟩:=hok' b _ z2;rw [e] at e1;cases e1
      exact e2
 cases hk:K.lookup a with
 | some o =>
  -- the script is one of the module's own objects
  have e:=KX a o hk;rw [ha] at e
  cases e
  refine core (λ_=>none) (λ_ => .inl rfl) (.inr ⟨_,vs.toArray,_,hk,rfl,rfl,rfl,by rw [ξ,lenV];exact hl,by simpa using rv⟩) (λb u z=>by have z':(none:Option HO)=some u:=z;cases z') (λb z=>absurd rfl z) λz=>absurd rfl z
 | none =>
  refine core (λb=>if b=a then some (.dO { cls := .type "list",data := .seq vs.toArray } (.lst (ns.map V.int))) else none) (λb=>?_) (.inl (.inr ⟨{ cls := .type "list",data := .seq vs.toArray },if_pos rfl⟩)) (λb u z=>?_) (λb z=>?_) λ_=>hk
  ·by_cases hb:b=a
   ·exact .inr ⟨_,_,if_pos hb⟩
   ·exact .inl (if_neg hb)
  ·by_cases hb:b=a
   ·have z':=(if_pos hb).symm.trans z
    cases z'
    subst hb;exact ⟨ha,by rw [Β];exact hl,vs,_,rv,ha⟩
   ·have z':=(if_neg hb).symm.trans z
    cases z'
  ·by_cases hb:b=a
   ·exact hb
   ·exact absurd (if_neg hb) z
theorem RQ {l:PySem.W.OpenLaw} {n k:Nat} {q:ζ} {loose:List Str} {XP:(Str->Option Α)->Heap->Prop} {YP:ν->Heap->Prop} {d:DefRec} {K:Params->Ι} {CX:ν->dU} {sp:ν->Sp} {x:Str}
  (hn:l.most=some n) (hn2:n<=sizeLine) (hdf:d.params.defaults=[]) (hr:aQ k io)
  (hY:∀ (w:ν) (h:Heap),YP w h->(K w.params).In h)
  (F:∀ (w:ν) (mg:Str->Option Α) (fa:Addr) (h:Heap),(K w.params).In h->h.Ns aE mg->mg d.name=some (.ref fa) ->
   ∃ fd:fh,(∀ (s:Δ) (u:Α),BindsTo s fd ⟨[u],[]⟩ [(x,u)]) /\
    ∀ base:Heap,(K w.params).In base->base.Ns aE mg->bM l.prog w (K w.params) mg base (CX w) k fa fd [x] (sp w))
  (hsp:∀ (w:ν) (H:Hp) (a:Addr) (ns:List Int),ns.length<=n->Only H->ao (K w.params) H a (ns.map V.int)->sp w [.ref a] H (λv _=>v = .bl true) λ_ _ _=>False)
  (wB:∀ (w:ν) (H:Hp) (s:Δ) (e:Α) (s':Δ),CX w [] H s (λ_ _ _=>False) e s'->False) :
  PySem.W.WalkO q loose XP YP l.row.toRowW d [] (λf vs=>PySem.call f vs):=by
 refine Ey.lu hn hdf λw s₀ s₁ mg mb fa o pm cd doc a vs ns G Y ho hd hcd hmg hobj hints hlen hg=>?_
 have KX:=hY w _ Y;obtain ⟨fd,hb,hF⟩:=F w mg fa _ KX G.T.g hmg;exact RP KX G.T.g G.T.b G.T.builtins G.T.nolimit hg hobj hints (Ο hlen hn2) hr hF hb (λH hO hS=>hsp w H a ns hlen hO hS) λH e s'=>wB w H s₁ e s'
def Yx (s:Stmt) (j:Nat):Stmt:=match s with
 | .ClassDef _ _ _ body _ _ _ _ _ _ _=>body.getD j (.Pass ⟨0,0,0,0⟩)
 | _ => .Pass ⟨0,0,0,0⟩
def Y5 (s:Stmt):Arguments:=match s with
 | .FunctionDef _ a _ _ _ _ _ _ _ _=>a
 | _=>{ posonlyargs:=[],args:=[],vararg:=none,kwonlyargs:=[],kw_defaults:=[],kwarg:=none,defaults:=[] }
def YZ (s:Stmt):List Stmt:=match s with
 | .FunctionDef _ _ b _ _ _ _ _ _ _=>b
 | _=>[]
def Yk (s:Stmt):Scope:=match s with
 | .FunctionDef _ _ _ _ _ _ sc _ _ _=>sc
 | _=>{ kind := .function,names:=[],isGenerator:=false,isCoroutine:=false }
abbrev fY:dU:=λ_ _ _ _ _ _=>False
abbrev E0:XK:=λ_ _ _=>False
theorem Vy {X:Cx}:WX fY X E0:=λ_ _ _ _ _ _ _ h=>h.elim
structure gK (K:Ι) (x qual:Str) (st:Stmt) (f:Addr) (fd:fh):Prop where
 ex:∃ (oc:Α) (od:Option Addr) (kV doc pm:Α) (an:Option Addr) (cdv ct:Α) (osl:Array (Option Α)),
  fd=dv x qual (Y5 st) (YZ st) (Yk st) .none kV doc pm an cdv ct/\K.lookup f=some ⟨oc,od,.func fd,osl⟩/\iq K cdv qual=true
 kp:ff K (.ref f)=true
section
variable {P:ζ} {w:ν} {K:Ι} {mg:Str->Option Α} {base:Heap}
theorem gK.ok {x qual:Str} {st:Stmt} {f:Addr} {fd:fh} {N ps:List Str} {k:Nat} {sp:Sp} (F:gK K x qual st f fd) (S:ak N ps (Yk st)) (len:∀ vs H Q E,sp vs H Q E->vs.length=ps.length)
  (hbody:∀ (cdv:Α) (A:ag) (outer:List Env) (s:Δ) (H:Hp) (vs:List V) (Q:VK) (E:XK),aQ k (A.deeper (envOfC qual (Yk st) s.heap.objs.size f cdv))->sp vs H Q E ->
   ∃ t,eF (VX fY P w K mg base N qual (Yk st) f cdv A outer s H E).jL (YZ st) t/\t { nx:=λ_ H'=>Q .non H',rt:=Q } (Wc N vs) H):bM P w K mg base fY (k+1) f fd ps sp:=by
 obtain ⟨oc,od,kV,doc,pm,an,cdv,ct,osl,rfl,lk,hcd⟩:=F.ex;refine En lk hcd S len λA outer s H vs Q E hr hsp=>?_
 obtain ⟨t,h,q⟩:=hbody cdv A outer s H vs Q E hr hsp;exact ⟨t,h.jL,q⟩
theorem gK.binds {x qual:Str} {st:Stmt} {f:Addr} {fd:fh} {ps:List Str} (F:gK K x qual st f fd)
  (h:∀ (kV doc pm:Α) (an:Option Addr) (cdv ct:Α) (us:List Α),us.length=ps.length->gS (dv x qual (Y5 st) (YZ st) (Yk st) .none kV doc pm an cdv ct) ⟨us,[]⟩=pure (ps.zip us)):Xf K fd ps []:=by
 obtain ⟨oc,od,kV,doc,pm,an,cdv,ct,osl,rfl,lk,hcd⟩:=F.ex;exact .all (h kV doc pm an cdv ct)
theorem V0 {x qual:Str} {st:Stmt} {f:Addr} {oc:Α} {od an:Option Addr} {osl:Array (Option Α)} {kV doc pm cdv ct:Α} (l:K.lookup f=some ⟨oc,od,.func (dv x qual (Y5 st) (YZ st) (Yk st) .none kV doc pm an cdv ct),osl⟩)
  (c:iq K cdv qual=true) (k:ff K (.ref f)=true):gK K x qual st f (dv x qual (Y5 st) (YZ st) (Yk st) .none kV doc pm an cdv ct):=⟨⟨oc,od,kV,doc,pm,an,cdv,ct,osl,rfl,l,c⟩,k⟩
end
theorem EY {A:ag} {k:Nat} (hr:aQ k A):A.units+1<cLine:=gi (Nat.add_le_add_left (by decide:1<=64) _) hr.units
section
variable {X:Cx}
theorem pv (i:Nat) {x:Str} {pos:Pos} (hN:X.N[i]?=some x:=by rfl) (hv:sJ X.env.scope x:=by first | exact .inl rfl | exact .inr (.inl rfl) | exact .inr (.inr rfl)) (hd:(x==("__debug__":Str))=false:=by decide)
  (hcd:(x==("__classdict__":Str))=false:=by decide):PE X (.Name x pos) (WU i):=OJ hN hv hd hcd
end
theorem Xq {A B:Prop} (h:B):if false=true then A else B:=by
 rw [if_neg ρ];exact h
theorem UI {A B:Prop} (h:A):if true=true then A else B:=by
 rw [if_pos rfl];exact h
theorem Xv {c A B:Prop} [Decidable c] (h1:c->A) (h2:¬ c->B):if c then A else B:=by
 by_cases h:c
 ·rw [if_pos h]
  exact h1 h
 ·rw [if_neg h]
  exact h2 h
def Yj (H H':Hp):Prop:=∀ b o,H b=some o->H' b=some o
theorem Yj.refl (H:Hp):Yj H H:=λ_ _ h=>h
theorem Yj.trans {H H1 H2:Hp} (a:Yj H H1) (b:Yj H1 H2):Yj H H2:=λc o h=>b c o (a c o h)
theorem Yj.free {H H':Hp} (e:Yj H H') {l:Addr} (h:H' l=Option.none):H l=Option.none:=by
 cases q:H l with
 | none=>rfl
 | some o =>
  rw [e l o q] at h
  cases h
theorem Yj.seq {K:Ι} {H H':Hp} {a:Addr} {xs:List V} (e:Yj H H') (h:ao K H a xs):ao K H' a xs:=by
 rcases h with (h | ⟨o,h⟩) | h
 ·exact .inl (.inl (e _ _ h))
 ·exact .inl (.inr ⟨o,e _ _ h⟩)
 ·exact .inr h
section
variable {κ:Type} [DecidableEq κ]
def WK (kvs:List (κ×V)) (k:κ):Option V:=(kvs.find? λkv=>decide (kv.1=k)).map (·.2)
def putK (kvs:List (κ×V)) (k:κ) (v:V):List (κ×V) :=
 if (kvs.any λkv=>decide (kv.1=k))=true then kvs.map (λkv=>if kv.1=k then (kv.1,v) else kv) else kvs++[(k,v)]
theorem Fb {p:κ×V} {r:List (κ×V)} {k:κ} (e:p.1=k):WK (p::r) k=some p.2:=by simp [WK,aT,e]
theorem Fd {p:κ×V} {r:List (κ×V)} {k:κ} (e:¬ p.1=k):WK (p::r) k=WK r k:=by simp [WK,aT,e]
theorem KV.val {kvs:List (κ×V)} {vs:List (κ×Α)} (r:KV kvs vs) (k:κ):X9 (WK kvs k) (valueAt vs k):=by
 unfold KV at r
 induction r with
 | nil=>exact dk
 | @cons p q ps qs h t ih =>
  obtain ⟨h1,h2⟩:=h;by_cases e:p.1=k
  ·have e':q.1=k:=h1.symm.trans e
   have b:valueAt (q::qs) k=some q.2:=by simp [valueAt,aT,e']
   rw [Fb e,b];exact h2
  ·have e':¬ q.1=k:=λz=>e (h1.trans z)
   have b:valueAt (q::qs) k=valueAt qs k:=by simp [valueAt,aT,e']
   rw [Fd e,b];exact ih
end
theorem tU {P:ζ} {w:ν} {k:Key} {u:Α} (r:YD (kV k) u):(YX P w).is k u=true:=by
 cases k with
 | inl i=>obtain ⟨t,e⟩:=(show ∃ t,u=ja i t from r);subst e;exact Ou P w i t
 | inr x=>obtain ⟨t,e⟩:=(show ∃ t,u=hW x t from r);subst e;exact Uz P w x t
theorem QX {P:ζ} {w:ν}:∀ {ks:List Key} {us:List Α},Yt (ks.map kV) us->ItemsAre (YX P w) ks us
 | [],_,r=>by rw [eI] at r;cases r;exact .nil
 | k::ks,_,r=>by
  rw [aa] at r
  cases r with
  | cons h t=>exact .cons (tU h) (QX t)
abbrev KT (H:Hp):List (List Key×V)->List (List Key×Addr×Α)->Prop:=Paired λp q=>p.1=q.1/\H q.2.1=some (.tup (p.1.map kV))/\YD p.2 q.2.2
theorem KT.val {H:Hp} {kvs:List (List Key×V)} {xs:List (List Key×Addr×Α)} (r:KT H kvs xs) (k:List Key):X9 (WK kvs k) ((atKey xs k).map (·.2)):=by
 induction r with
 | nil=>exact dk
 | @cons p q ps qs h t ih =>
  obtain ⟨h1,_,h2⟩:=h;by_cases e:p.1=k
  ·have e':q.1=k:=h1.symm.trans e
   have b:atKey (q::qs) k=some q.2:=by simp [atKey,aT,e']
   rw [Fb e,b];exact h2
  ·have e':¬ q.1=k:=λz=>e (h1.trans z)
   have b:atKey (q::qs) k=atKey qs k:=by simp [atKey,aT,e']
   rw [Fd e,b];exact ih
section
variable {P:ζ} {w:ν} {H:Hp} {h:Heap} {a:Addr}
theorem Fe {u:HO} (ok:bD P w H h) (e:Rd H a u):YV P w H h a u:=e.ok ok
theorem wC {kvs:List (Key×V)} (ok:bD P w H h) (e:Rd H a (.dK kvs)):kvs.length<=sizeLine/\(a==eQ)=false/\∃ vs,KV kvs vs/\h.DictOf (YX P w) a vs :=
 show YV P w H h a (.dK kvs) from Fe ok e
theorem Up {kvs:List (Key×V)} (ok:bD P w H h) (e:H a=some (.dK kvs)):kvs.length<=sizeLine/\(a==eQ)=false/\∃ vs,KV kvs vs/\h.DictOf (YX P w) a vs:=wC ok (.inl e)
theorem Fg {ks:List Key} (ok:bD P w H h) (e:H a=some (.tup (ks.map kV))):(tupleKind (YX P w)).is h ks a:=by
 obtain ⟨_,its,r,o,h1,h2,n,h3⟩:=(show YV P w H h a (.tup (ks.map kV)) from ok a _ e);exact ⟨o,its.toArray,n,h1,h2,h3,by simpa using QX r⟩
theorem Fi {kvs:List (List Key×V)} (ok:bD P w H h) (e:Rd H a (.dT kvs)):kvs.length<=sizeLine/\(a==eQ)=false /\
  ∃ xs,KT H kvs xs/\h.DictOfH (tupleKind (YX P w)) a xs:=by
 obtain ⟨z,y,xs,r,o,es,ep,h1,h2,h3,h4,h5⟩:=(show YV P w H h a (.dT kvs) from Fe ok e);refine ⟨z,y,xs,r,o,es,ep,h1,h2,h3,h4,λx hx=>?_,h5⟩;have all:∀ {l:List (List Key×V)} {m:List (List Key×Addr×Α)},KT H l m->∀ x∈m,(tupleKind (YX P w)).is h x.1 x.2.1:=by
  intro l m q
  induction q with
  | nil=>intro x hx;exact nomatch hx
  | @cons p q ps qs hq t ih =>
   intro x hx;rcases Φ.mp hx with e | hx
   ·subst e
    exact Fg ok (by rw [<- hq.1];exact hq.2.1)
   ·exact ih x hx
 exact all r x hx
end
def V1 (H:Hp) (a:Addr) (y:V) (r:Option V):Prop :=
 (∃ kvs k,Rd H a (.dK kvs)/\y=kV k/\r=WK kvs k)\/∃ kvs k b,Rd H a (.dT kvs)/\y = .ref b/\H b=some (.tup (k.map kV))/\r=WK kvs k
def Np (H:Hp) (a:Addr) (y v:V) (H':Hp):Prop :=
 (∃ kvs k,H a=some (.dK kvs)/\y=kV k/\kvs.length<sizeLine/\H'=upd H a (.dK (putK kvs k v))) \/
 ∃ kvs k b,H a=some (.dT kvs)/\y = .ref b/\H b=some (.tup (k.map kV))/\kvs.length<sizeLine/\H'=upd H a (.dT (putK kvs k v))
theorem V1.k {H:Hp} {a:Addr} {kvs:List (Key×V)} {k:Key} (e:H a=some (.dK kvs)):V1 H a (kV k) (WK kvs k) := .inl ⟨kvs,k,.inl e,rfl,rfl⟩
section
variable {X:Cx} {pins:List (Addr×Obj)} {σ:St} {H:Hp} {s:Δ} {a:Addr} {y v:V} {u r:Α} {o:Option V} {A:ag} {E:Α->Δ->Prop}
theorem Inv.big (I:Inv X pins σ H s):eQ<s.heap.objs.size:=by
 have h:aE<s.heap.objs.size:=(I.mod.glob.keeps I.bk).lt;exact Nat.lt_trans (by decide) h
theorem RT {Q:Α->Δ->Prop} (hu:A.units+1<gc) (I:Inv X pins σ H s) (g:V1 H a y (some v)) (ry:YD y u) (h:∀ w' s',Inv X pins σ H s'->YD v w'->Q w' s') :
  Χ (Ω X.prog X.w) A (eP (.ref a) u) Q E s:=by
 rcases g with ⟨kvs,k,e,ey,l⟩ | ⟨kvs,k,b,e,ey,eb,l⟩
 ·subst ey
  obtain ⟨z,hd,vs,rel,dd⟩:=wC I.hok e;obtain ⟨w',hw,fK⟩:=X9.some_of (v:=v) (o:=valueAt vs k) (by rw [l];exact rel.val k);exact wpAny_getItem_of (tU ry) dd.mapOf hw (h w' _ (I.tok _) fK)
 ·subst ey
  cases (show u=ω b from ry)
  obtain ⟨z,hd,xs,rel,dd⟩:=Fi I.hok e;obtain ⟨w',hw,fK⟩:=X9.some_of (v:=v) (o:=(atKey xs k).map (·.2)) (by rw [l];exact rel.val k);obtain ⟨p,hp,hp2⟩:=ε.mp hw;refine wpAny_getItem_heap (tupleKind_room_in1 hu) (Fg I.hok eb) dd hp ?_;rw [hp2];exact h w' _ (I.tok _) fK
theorem Fj {h':Heap} {t':Nat} {ob:HO} (I:Inv X pins σ H s) (mu:oG (H a)) (hs:br a s.heap h') (he:∃ q,h'.get? a=some q) (new:YV X.prog X.w (upd H a ob) h' a ob) :
  Inv X pins σ (upd H a ob) { s with heap:=h',toks:=t' } :=
 I.write (x:=a) (e:=a) mu (.inl rfl) (λb q hb z=>(hs.2 b hb).trans z) he new
end
def rN (i:Expr):Prop:=∀ ov iv,subscripted i false ov iv=operate [ov,iv] (eP ov iv)
theorem Fl {prog:ζ} {w:ν} {A:ag} {E:Α->Δ->Prop} {s:Δ} {env:Env} {value slice:Expr} {pos:Pos} {T id:String} {Q:Α->Δ->Prop}
  (hl:typeLookup (.type T) "__getitem__"=pure (some (.builtin id))) (hs:rN slice)
  (h:Χ (Ω prog w) A (eval value env) (λo s₁=>Χ (Ω prog w) A (eval slice env) (λi s₂=>s₂.TypeIs o T/\Χ (Ω prog w) A (eP o i) Q E s₂) E s₁) E s) :
  Χ (Ω prog w) A (eval (.Subscript value slice pos) env) Q E s:=by
 refine Subscript_ (bb h (λo s₁ h₁=>bb h₁ (λi s₂ h₂=>?_) λ_ _ x=>x) λ_ _ x=>x);obtain ⟨hT,h₂⟩:=h₂;unfold subscriptTail;refine Θ ?_;rw [getitemInPython_of_ne hT.not_modules];refine Θ (ie hT hl ?_);have fin:Χ (Ω prog w) A (subscripted slice false o i) (λr s₃=>Χ (Ω prog w) A (letTemporaryGo value o r >>= λ_=>pure r) Q E s₃) E s₂:=by
  rw [hs o i];exact wpAny_operating (bb h₂ (λr s₃ h₃=>Θ (wpAny_letTemporaryGo (Ν h₃))) λ_ _ x=>x)
 first
  | exact Ν (Θ fin)
  | exact Θ (Ν (Θ fin))
  | exact Θ fin
theorem RW {X:Cx} {pins:List (Addr×Obj)} {σ:St} {H:Hp} {s:Δ} {a:Addr} {y:V} {o:Option V} (I:Inv X pins σ H s) (g:V1 H a y o):s.TypeIs (.ref a) "dict":=by
 rcases g with ⟨kvs,k,e,_,_⟩ | ⟨kvs,k,b,e,_,_,_⟩
 ·obtain ⟨_,_,vs,_,dd⟩:=wC I.hok e
  exact dd.typeIs
 ·obtain ⟨_,_,xs,_,dd⟩:=Fi I.hok e
  exact dd.typeIs
def wD (td ty:TE):TE:=λσ H Q=>td σ H λx H1=>ty σ H1 λy H2=>∃ a v,x = .ref a/\V1 H2 a y (some v)/\Q v H2
def Fo (td ty tv:TE):TS:=λD σ H=>tv σ H λv H1=>td σ H1 λx H2=>ty σ H2 λy H3=>∃ a H4,x = .ref a/\Np H3 a y v H4/\D.nx σ H4
section
variable {X:Cx} {o i e value:Expr} {pos pos' tpos:Pos} {td ty tv:TE}
theorem RX (hu:X.A.units+1<gc) (ho:PE X o td) (hi:PE X i ty) (hs:rN i):PE X (.Subscript o i pos) (wD td ty):=by
 intro pins s σ H Q I h;refine Fl F.slot_dict_getitem.lookup hs (aA (ho pins s σ H _ I h) λu s1 ⟨x,H1,I1,rx,q1⟩=>aA (hi pins s1 σ H1 _ I1 q1) λiv s2 ⟨y,H2,I2,ry,a,v,ex,g,q2⟩=>?_);subst ex;obtain rfl:u=ω a:=rx;exact ⟨RW I2 g,RT hu I2 g ry λw' s3 I3 fK=>⟨v,H2,I3,fK,q2⟩⟩
end
def Fp:TE:=λ_ H Q=>∀ p,H p=none->Q (.ref p) (upd H p (.dT []))
structure M2 (X:Cx) (o:Expr) (m:Str) (apos:Pos) (e f:Expr) (cpos:Pos):Prop where
 base:fI o m X.env (eval o X.env)=eval o X.env
 few:((bS cpos (θ [e,f] X.env)).all (λx => !x.1)&&(iP cpos (gE [] X.env)).all (λx=>x.1.isSome)
  && decide (([e,f]:List Expr).length+([]:List Keyword).length+(if ([]:List Keyword).isEmpty then 0 else 1)<30))=true
 line:(apos.endLine==cpos.line)=true
 trees:bS cpos (θ [e,f] X.env)=[(false,eval e X.env),(false,eval f X.env)]
theorem WZ (env:Env):∀ (names:List (Str×fw)) (cs:List (Str×Addr)),(∀ x,(x,ο)∈names->∃ c,env.cells.lookup x=some c) ->
  ∃ cl,(forIn names cs λ(p:Str×fw) (cs:List (Str×Addr))=>(if (p.2==ο)=true then (do let c <- cellOf env p.1;pure (c6 ((p.1,c)::cs))) else pure (c6 cs):Sem (ForInStep (List (Str×Addr)))))=pure cl /\
   (∀ x c,cl.lookup x=some c->env.cells.lookup x=some c\/cs.lookup x=some c)/\(∀ x,(x,ο)∈names->∃ c,cl.lookup x=some c)/\(∀ x c,cs.lookup x=some c->∃ d,cl.lookup x=some d)
 | [],cs,_=>⟨cs,by simp,λ_ _ h => .inr h,(λ_ h=>nomatch h),λx c h=>⟨c,h⟩⟩
 | (n,k)::r,cs,h=>by
  by_cases hk:k=ο
  ·subst hk
   obtain ⟨c,hc⟩:=h n (gm ..);obtain ⟨cl,e,a,b,d⟩:=WZ env r ((n,c)::cs) (λx hx=>h x (bp _ hx));have hcell:cellOf env n=pure c:=by unfold cellOf;rw [hc]
   refine ⟨cl,?_,λx c' hx=>?_,λx hx=>?_,λx c' hx=>?_⟩
   ·rw [List.forIn_cons]
    simp only [beq_self_eq_true,if_true,hcell,pure_bind];exact e
   ·rcases a x c' hx with q | q
    ·exact .inl q
    ·rw [Υ] at q
     by_cases hxn:(x==n)=true
     ·rw [hxn] at q
      have hx':x=n:=by simpa using hxn
      subst hx';have:c=c':=by simpa using q
      subst this;exact .inl hc
     ·rw [ek.mpr hxn] at q
      exact .inr q
   ·rcases Φ.mp hx with q | q
    ·have hx':x=n:=congrArg Prod.fst q
     subst hx';exact d x c (by rw [Υ];simp)
    ·exact b x q
   ·have:∃ d',((n,c)::cs).lookup x=some d':=by
     rw [Υ];by_cases hxn:(x==n)=true
     ·rw [hxn];exact ⟨c,rfl⟩
     ·rw [ek.mpr hxn];exact ⟨c',hx⟩
    obtain ⟨d',hd'⟩:=this;exact d x d' hd'
  ·obtain ⟨cl,e,a,b,d⟩:=WZ env r cs (λx hx=>h x (bp _ hx))
   have hkf:(k==ο)=false:=by simpa using hk
   refine ⟨cl,?_,a,λx hx=>?_,d⟩
   ·rw [List.forIn_cons]
    simp only [hkf,dA,if_false,pure_bind];exact e
   ·rcases Φ.mp hx with q | q
    ·exact absurd (congrArg Prod.snd q).symm hk
    ·exact b x q
theorem Vz (env:Env) (scope:db) (h:∀ x,(x,ο)∈scope.names->∃ c,env.cells.lookup x=some c) :
  ∃ cl,closureFor scope env=pure cl/\(∀ x c,cl.lookup x=some c->env.cells.lookup x=some c)/\(∀ x,(x,ο)∈scope.names->∃ c,cl.lookup x=some c):=by
 obtain ⟨cl,e,a,b,_⟩:=WZ env scope.names [] h;refine ⟨cl,?_,λx c hx=>(a x c hx).elim id (λz=>by simp at z),b⟩;unfold closureFor;simp only [bind_pure];exact e
def bY (X:Cx) (scope:db) (N':List Str) (cl:List (Str×Addr)) (C:Addr) (s₀:Δ) (H₀:Hp) (fp:List Addr) (pn:List (Addr×Obj)):Cx :=
 { X with N:=N',s₀:=s₀,H₀:=H₀,env:=cr scope cl C X.env,outer:=X.stack,ex:=fp,fn:=λ_=>false,pn:=pn,xe:=λ_ _=>False }
inductive dW (X:Cx) (scope:db):List (Option Nat)->List Str->Prop
 | nil:dW X scope [] []
 | own {x src N'}:dW X scope src N'->dW X scope (none::src) (x::N')
 | cap {x i src N'}:X.N[i]?=some x->scope.names.lookup x=some ο->(X.env.scope.names.lookup x=some ci\/X.env.scope.names.lookup x=some ο)->dW X scope src N'->dW X scope (some i::src) (x::N')
def YB (src:List (Option Nat)) (σ:St):St:=src.map λo=>match o with | none=>none | some i=>σ.getD i none
theorem dW.length {X:Cx} {scope:db}:∀ {src:List (Option Nat)} {N':List Str},dW X scope src N'->src.length=N'.length
 | _,_,.nil=>rfl
 | _,_,.own h=>congrArg (·+1) h.length
 | _,_,.cap _ _ _ h=>congrArg (·+1) h.length
theorem dW.get {X:Cx} {scope:db} {σ:St}:∀ {src:List (Option Nat)} {N':List Str},dW X scope src N'->∀ (j:Nat) (x:Str) (v:V),N'[j]?=some x->(YB src σ)[j]?=some (some v) ->
  ∃ i:Nat,X.N[i]?=some x/\σ[i]?=some (some v)/\scope.names.lookup x=some ο/\(X.env.scope.names.lookup x=some ci\/X.env.scope.names.lookup x=some ο)
 | _,_,.nil,j,x,v,h,_=>by simp at h
 | _,_,.own h,0,x,v,_,e=>by simp [YB] at e
 | _,_,.own h,j+1,x,v,e1,e2=>h.get j x v (by simpa using e1) (by simpa [YB] using e2)
 | _,_,.cap (x:=y) (i:=i) hN hf hk h,0,x,v,e1,e2=>by
  have ex:y=x:=by simpa using e1
  subst ex;refine ⟨i,hN,?_,hf,hk⟩;simp only [YB,aa,List.getElem?_cons_zero,Option.some.injEq] at e2;rw [ae] at e2
  cases q:σ[i]? with
  | none=>rw [q] at e2;simp at e2
  | some o=>rw [q] at e2;simp at e2;rw [e2]
 | _,_,.cap hN hf hk h,j+1,x,v,e1,e2=>h.get j x v (by simpa using e1) (by simpa [YB] using e2)
theorem Wk (env:Env) (x:Str):∀ {names:List (Str×fw)},
  (names.map λ(n,k)=>if (k==ο&&env.scope.kind == .function&&env.kindOf n==some .cell) then (n,ci) else (n,k)).lookup x =
   (names.lookup x).map λk=>if (k==ο&&env.scope.kind == .function&&env.kindOf x==some .cell) then ci else k
 | []=>rfl
 | (n,k)::r=>by
  have ih:=@Wk env x r;rw [aa];dsimp only;by_cases hx:(x==n)=true
  ·have e:x=n:=by simpa using hx
   subst e;by_cases hc:(k==ο&&env.scope.kind == .function&&env.kindOf x==some .cell)=true
   ·rw [if_pos hc,Υ,Υ,hx]
    simp only [dQ];rw [if_pos hc]
   ·rw [if_neg hc,Υ,Υ,hx]
    simp only [dQ];rw [if_neg hc]
  ·have hx':=ek.mpr hx
   by_cases hc:(k==ο&&env.scope.kind == .function&&env.kindOf n==some .cell)=true
   ·rw [if_pos hc];simp only [Υ,hx'];exact ih
   ·rw [if_neg hc];simp only [Υ,hx'];exact ih
theorem XQ {names:List (Str×fw)} {x:Str} (h:names.lookup x=some ο):(x,ο)∈names:=bv h
section
variable {X:Cx}
theorem RZ {scope:db} {N':List Str} {src:List (Option Nat)} {cl:List (Str×Addr)} {pins:List (Addr×Obj)} {σ:St} {H:Hp} {s s':Δ} {h':Heap} {tk:Nat} {fp:List Addr} {m:Str->Option Α}
  (hk:scope.kind = .function) (hcell:∀ y∈scope.names,y.2 ≠ .cell) (hcap:dW X scope src N')
  (a:∀ x c,cl.lookup x=some c->X.env.cells.lookup x=some c) (b:∀ x,(x,ο)∈scope.names->∃ c,cl.lookup x=some c)
  (I:Inv X pins σ H s) (hf:∀ b∈fp,X0 X pins H b) (hfl:∀ b∈fp,b<s.heap.objs.size) (es':s'={ s with heap:=h',toks:=tk })
  (keep:∀ b o,s.heap.get? b=some o->h'.get? b=some o) (hn:h'.Ns s.heap.objs.size m) :
  Inv (bY X scope N' cl s.heap.objs.size s H fp (X.pn++pins)) [] (YB src σ) H s':=by
 subst es';have kindOf:∀ x,(cr scope cl s.heap.objs.size X.env).kindOf x=(scope.names.lookup x).map λk=>if (k==ο&&X.env.scope.kind == .function&&X.env.kindOf x==some .cell) then ci else k:=λx=>Wk X.env x
 have freeOf:∀ x,((cr scope cl s.heap.objs.size X.env).kindOf x=some .cell\/(cr scope cl s.heap.objs.size X.env).kindOf x=some .free)->scope.names.lookup x=some .free:=λx h=>by
  rw [kindOf] at h
  cases q:scope.names.lookup x with
  | none=>rw [q] at h;simp at h
  | some k =>
   rw [q] at h
   by_cases hkf:k=ο
   ·rw [hkf]
   ·have rO:(k==ο)=false:=by simpa using hkf
    simp only [dQ,rO,Bool.false_and,dA,if_false] at h;rcases h with h | h
    ·exact absurd (Γ h) (hcell _ (bv q))
    ·exact absurd (Γ h) hkf
 refine ⟨⟨I.ok.mod,hk,I.ok.glob,I.ok.blt,Κ _,λx y c h1 h2=>I.ok.inj x y c (a x c h1) (a y c h2),λx hx=>b x (XQ (freeOf x hx)),(λx c z _=>nomatch z),I.ok.hd,I.ok.frames,.inl rfl,λb' hb=>?_,I.bs,Ο I.ok.fX I.sz,λb' o e hb=>?_,λb' hb z=>?_,I.stack,I.ji⟩,
  rfl,I.bare,Un.kept keep,⟨m,hn,λj x v h1 h2 h3=>?_⟩,λx c h=>?_,I.hok.fresh (Κ _),λx c h=>I.cL x c (a x c h),λp hp=>?_,I.hok.kept keep,?_⟩
 ·obtain ⟨f0,f1,f2,f3,f4,f5⟩:=hf b' hb
  exact ⟨ς (hfl b' hb),λx c h=>f4 x c (a x c h)⟩
 ·obtain ⟨f0,f1,f2,f3,f4,f5⟩:=hf b' hb
  rcases f3 with z | z
  ·exact I.ok.jh b' o e z
  ·exact absurd (τ (Ψ e) (Ο I.ok.fX z)) (ce _)
 ·obtain ⟨f0,f1,f2,f3,f4,f5⟩:=hf b' hb
  rcases Φ.mp (I.cZ b' z) with e | e
  ·exact f1 e
  ·exact f2 e
 ·obtain ⟨i,e1,e2,e3,e4⟩:=hcap.get j x v h1 h2
  obtain ⟨m0,hn0,hl⟩:=I.loc;obtain ⟨u,r,l⟩:=hl i x v e1 e2 (by rcases e4 with e4 | e4;exact .inr (.inl e4);exact .inr (.inr e4));refine ⟨u,r,?_⟩;rcases l with ⟨l,_⟩ | ⟨k,c,e,z⟩
  ·have l':X.env.scope.names.lookup x=some fw.local:=l
   rcases e4 with e4 | e4<;>(rw [e4] at l';cases l')
  ·refine .inr ⟨?_,?_⟩
   ·show (cr scope cl s.heap.objs.size X.env).kindOf x=some .cell\/(cr scope cl s.heap.objs.size X.env).kindOf x=some .free
    rw [kindOf,e3];simp only [dQ]
    split
    ·exact .inl rfl
    ·exact .inr rfl
   ·obtain ⟨c',hc'⟩:=b x (XQ e3)
    have:=a x c' hc';rw [e] at this
    cases this
    obtain ⟨o,ho,hd⟩:=z;exact ⟨c,hc',o,keep _ _ ho,hd⟩
 ·obtain ⟨v,o,ho,hd⟩:=I.cell x c (a x c h)
  exact ⟨v,o,keep _ _ ho,hd⟩
 ·have hp':p∈X.pn++pins:=by simpa [bY] using hp
  obtain ⟨e,n,ne,nf,d⟩:=I.pin p hp';refine ⟨keep _ _ e,n,ς (Ψ e),λz=>?_,d⟩;rcases Φ.mp (I.cZ p.1 z) with q | q
  ·exact ne q
  ·exact nf q
 ·show (YB src σ).length=N'.length
  rw [<- hcap.length];simp [YB]
end
section
variable {prog:ζ} {w:ν} {A:ag} {R:Result->Δ->Prop} {s:Δ}
theorem R0 {elt tg iter:Expr} {ifs:List Expr} {scope:db} {pos:Pos} {it acc:Α} {env:Env} (J:Nat->Δ->Prop)
  (turn:∀ n s,J n s->Χ (Ω prog w) A (pyNext it) (λr s₁=>match r with
    | none=>R (.ok .next) s₁
    | some v=>Χ (Ω prog w) A (eR tg it v) (λ_ z₁=>Χ (Ω prog w) A (assign tg env v) (λ_ s₂ =>
      Χ (Ω prog w) A (forIn ifs true λc r=>if r=true then do let ok <- isTrue c env (eval c env);pure (c6 ok) else pure (c6 r))
       (λok s₃=>if ok=true then Χ (Ω prog w) A (eval elt env) (λx s₄=>Χ (Ω prog w) A (call (.builtin "list.append") [acc,x]) (λ_ s₅=>∃ m,m<n/\J m s₅) (λ_ _=>False) s₄) (notedBy (Ω prog w) A env λe s'=>R (.error e) s') s₃
        else ∃ m,m<n/\J m s₃) (λ_ _=>False) s₂) (λ_ _=>False) z₁) (λ_ _=>False) s₁) (λ_ _=>False) s)
  (n:Nat) (h:J n s):fN (Ω prog w) A (.compLoop (.ListComp elt [⟨tg,iter,ifs,0⟩] scope pos) 0 it acc env) R s:=by
 refine codeAny_loop rfl J (λn s hJ=>?_) n h
 show Χ _ A (Sem.onRaise (compTurn (.ListComp elt [⟨tg,iter,ifs,0⟩] scope pos) 0 it acc env) (λx=>do noteFrame x env;theTreesLotGoes x)) _ _ s
 refine wpAny_noted ?_;rw [compTurn_list];have no:∀ {E:Α->Δ->Prop},∀ (e:Α) (s':Δ),False->E e s':=λ_ _ f=>f.elim
 refine Θ (wpAny_standAt (Θ (bb (turn n s hJ) (λr s₁ h₁=>?_) no)))
 cases r with
 | none=>exact Ν h₁
 | some v =>
  refine Θ (bb h₁ (λ_ z₁ hz=>?_) no);refine Θ (bb hz (λ_ s₂ h₂=>Θ (bb h₂ (λok s₃ h₃=>?_) no)) no)
  cases ok with
  | false=>exact Ν ⟨rfl,h₃⟩
  | true =>
   exact Θ (Θ (bb h₃ (λx s₄ h₄=>Θ (bb h₄ (λ_ s₅ h₅=>Ν (Ν ⟨rfl,h₅⟩)) no)) λ_ _ z=>z))
end
def lO (X:Cx) (ifs:List Expr) (t:TT):Prop :=
 ∀ (pins:List (Addr×Obj)) (s:Δ) (σ:St) (H:Hp) (Q:Bool->Hp->Prop),Inv X pins σ H s->t σ H Q ->
  Χ (Ω X.prog X.w) X.A (forIn ifs true λc r=>if r=true then do let ok <- isTrue c X.env (eval c X.env);pure (c6 ok) else pure (c6 r)) (TP X pins σ Q) X.xe s
def XO:TT:=λ_ H Q=>Q true H
theorem Y0 {X:Cx}:lO X [] XO:=λ_ _ _ H _ I h=>wpAny_tests_nil ⟨H,I,h⟩
theorem R3 {X:Cx} {c:Expr} {t:TT} (h:PT X c t):lO X [c] t:=λpins s σ H Q I q=>wpAny_tests_one (h pins s σ H Q I q)
def LC (src:List (Option Nat)) (J:It) (g:TG) (tt:TT) (te:TE) (σ:St) (H1:Hp) (Q:VK) (D:Addr):Prop:=∃ W:Nat->Nat->List V->St->Hp->Prop,(∃ m,W 0 m [] (YB src σ) (upd H1 D (.lst []))) /\
 ∀ i m ys σ' H2,W i m ys σ' H2->H2 D=some (.lst ys)/\((J.stop i H2/\Q (.ref D) H2)\/(J.go i H2/\∃ N:List V->St->Hp->Prop,(∀ ys' σ3 H3,N ys' σ3 H3->∃ m',m'<m/\W (i+1) m' ys' σ3 H3)/\∀ x H3,J.iB i H2 x H3->g x σ' H3 λσ2 H4=>tt σ2 H4 λb H5 =>
  if b=true then te σ2 H5 λy H6=>H6 D=some (.lst ys)/\ys.length<sizeLine/\N (ys++[y]) σ2 (upd H6 D (.lst (ys++[y])))
  else N ys σ2 H5))
def c7 (src:List (Option Nat)) (wi:TI) (g:TG) (tt:TT) (te:TE):TE:=λσ H Q=>wi σ H λJ H1=>∀ D,H1 D=none->LC src J g tt te σ H1 Q D
section
variable {X:Cx}
theorem Fq {elt tg iter:Expr} {ifs:List Expr} {scope:db} {pos:Pos} {src:List (Option Nat)} {N':List Str} {g:TG} {tt:TT} {te:TE} {cl:List (Str×Addr)} {pins:List (Addr×Obj)} {σ:St} {Q:VK} {itv:Α} {s2:Δ} {Po:Α->Addr->Result->Δ->Prop} {Z:Addr->Δ->Hp->List Addr->List (Addr×Obj)->Α->Δ->Prop}
  (hcap:dW X scope src N') (hc:X.calm=true) (hg:∀ C s₀ H₀ fp pn,PG (bY X scope N' cl C s₀ H₀ fp pn) tg g) (ht:∀ C s₀ H₀ fp pn,lO (bY X scope N' cl C s₀ H₀ fp pn) ifs tt)
  (he:∀ C s₀ H₀ fp pn,PE ((bY X scope N' cl C s₀ H₀ fp pn).wish (Z C s₀ H₀ fp pn)) elt te) (hk:scope.kind = .function) (hcell:∀ y∈scope.names,y.2 ≠ .cell) (a:∀ x c,cl.lookup x=some c->X.env.cells.lookup x=some c) (b:∀ x,(x,ο)∈scope.names->∃ c,cl.lookup x=some c)
  (h2:PIE X pins σ tg (λJ H1=>∀ D,H1 D=none->LC src J g tt te σ H1 Q D) itv s2)
  (done:∀ (D C:Addr) (s6:Δ) (H5:Hp),(∀ h',br C s6.heap h'->Inv X pins σ H5 { s6 with heap:=h' })->(∃ m,s6.heap.Ns C m)->H5 C=none->(∀ {H':Hp},H' C=none->X0 X pins H' C)->Q (.ref D) H5->Po (.ref D) C (.ok .next) s6)
  (gone:∀ (D:Addr) (s3:Δ) (H3:Hp) (fp:List Addr),Inv X pins σ H3 s3->(∀ {H':Hp} {s':Δ} {σ':St} {cY:List (Addr×Obj)},Inv (bY X scope N' cl s3.heap.objs.size s3 H3 fp (X.pn++pins)) cY σ' H' s'->∀ h',br s3.heap.objs.size s'.heap h'->Inv X pins σ H' { s' with heap:=h' }) ->
   ∀ e s',Z s3.heap.objs.size s3 H3 fp (X.pn++pins) e s'->notedBy (Ω X.prog X.w) X.A (cr scope cl s3.heap.objs.size X.env) (λe s'=>Po (.ref D) s3.heap.objs.size (.error e) s') e s') :
  Χ (Ω X.prog X.w) X.A (newList []) (λacc s₃=>Χ (Ω X.prog X.w) X.A (newFunctionEnv scope X.env.globals cl [] X.env.qual none ia (some X.env)) (λcenv s₄ =>
   fN (Ω X.prog X.w) X.A (.compStart (.ListComp elt [⟨tg,iter,ifs,0⟩] scope pos) 0 itv acc { cenv with scope:=relabel scope X.env }) (Po acc cenv.locals) s₄) X.xe s₃) X.xe s2:=by
 obtain ⟨it,fp,tn,J,H2,e,I2,T,st2,f2,q⟩:=h2;subst e;have hD:H2 s2.heap.objs.size=none:=I2.hok.fresh (Κ _);obtain ⟨W,⟨m0,w0⟩,turn⟩:=q s2.heap.objs.size hD;have I3:=I2.rK (t':=s2.toks) (ys:=[]) (its:=[]) .nil (ι _);have wF:∀ b∈fp,b<s2.heap.objs.size:=λb hb=>by
  obtain ⟨o,e,_⟩:=T.obj _ _ st2 b hb;exact Ψ e
 refine bj ?_;generalize oN:({ s2 with heap:=s2.heap.push { cls := .type "list",dict:=none,data := .seq ([]:List Α).toArray } }:Δ)=s3;have iI:Inv X pins σ (upd H2 s2.heap.objs.size (.lst [])) s3:=oN▸I3
 have m6:∀ b o,s2.heap.get? b=some o->s3.heap.get? b=some o:=λb o e=>by rw [<- oN];exact Ρ _ e
 have st3:tn 0 s3.heap:=T.keep _ _ _ st2 λb _ o e=>m6 b o e
 have lQ:∀ b∈fp,b<s3.heap.objs.size:=λb hb=>by
  obtain ⟨o,e,_⟩:=T.obj _ _ st3 b hb;exact Ψ e
 have f3:∀ b∈fp,X0 X pins (upd H2 s2.heap.objs.size (.lst [])) b:=λb hb=>⟨by rw [Yh (ς (wF b hb))];exact (f2 b hb).1,(f2 b hb).2⟩
 generalize eD:s2.heap.objs.size=D at *;generalize R4:upd H2 D (.lst [])=H3 at *;refine wpAny_newFunctionEnv hcell (by intro y hy;simp at hy) (λh₁ hns₁ hsb₁=>?_) hk;have fC:∀ b o,s3.heap.get? b=some o->h₁.get? b=some o:=λb o e=>hsb₁.extBut b o (ς (Ψ e)) (Ρ _ e)
 have I4:=RZ (N':=N') (src:=src) (tk:=s3.toks+([]:List (Str×Α)).length) hk hcell hcap a b iI f3 lQ rfl fC hns₁;have stat:∀ {H':Hp},(∀ b∈fp,H' b=none)->∀ b∈fp,X0 (bY X scope N' cl s3.heap.objs.size s3 H3 fp (X.pn++pins)) [] H' b:=λhn b' hb=>by
  obtain ⟨f0,f1,fs,fe,f4,f5⟩:=f3 b' hb;refine ⟨hn b' hb,ς (lQ b' hb),λz=>?_,.inl hb,λx c h=>f4 x c (a x c h),λp hp=>f5 p (by simpa [bY] using hp)⟩;rcases Φ.mp (iI.cZ b' z) with e | e
  ·exact f1 e
  ·exact fs e
 have fin:∀ {H':Hp} {s':Δ} {σ':St} {cY:List (Addr×Obj)},Inv (bY X scope N' cl s3.heap.objs.size s3 H3 fp (X.pn++pins)) cY σ' H' s'->∀ h',br s3.heap.objs.size s'.heap h'->Inv X pins σ H' { s' with heap:=h' }:=λ{H' s' σ' cY} J' h' sb=>by
  have same:∀ b o,b≠s3.heap.objs.size->s'.heap.get? b=some o->h'.get? b=some o:=λb o hb e=>sb.extBut b o hb e
  have u:Un (frs X.stack) fp H3 H' s3.heap s'.heap:=J'.base;refine iI.call' (s':={ s' with heap:=h' }) (ch:=fp) J'.os ⟨λb o e n hb hx=>?_,λb o e n hb hx=>?_,u.free,λb o e hx=>?_,u.tups,u.dR,u.eU⟩ (λb o e=>?_) J'.bare λb hb=>?_
  ·exact same b o (ς (Ψ e)) (u.keep b o e n hb hx)
  ·obtain ⟨sl,z⟩:=u.slot b o e n hb hx
   exact ⟨sl,same b _ (ς (Ψ e)) z⟩
  ·obtain ⟨o',z⟩:=u.there b o e hx
   exact ⟨o',same b o' (ς (Ψ e)) z⟩
  ·have nC:∀ c v,H' c=some v->c≠s3.heap.objs.size:=λc v z q=>by
    have:=J'.free;rw [show (bY X scope N' cl s3.heap.objs.size s3 H3 fp (X.pn++pins)).env.locals=s3.heap.objs.size from rfl,<- q,z] at this
    cases this
   refine (J'.hok b o e).stay (λc v hc q=>same c v ?_ q) (λ_ q=>q) λ_ _ q=>q
   rcases hc with z | z
   ·rw [z];exact nC b o e
   ·exact nC c _ z
  ·obtain ⟨f0,f1,fs,fe,f4,f5⟩:=f3 b hb
   exact ⟨fe,f1,f4,f5⟩
 have loop:fN (Ω X.prog X.w) X.A (.compLoop (.ListComp elt [⟨tg,iter,ifs,0⟩] scope pos) 0 (.ref it) (.ref D) (cr scope cl s3.heap.objs.size X.env))
   (Po (.ref D) s3.heap.objs.size) { s3 with heap:=h₁,toks:=s3.toks+([]:List (Str×Α)).length }:=by
  refine R0 (λn s'=>∃ i ys σ' H',Inv (bY X scope N' cl s3.heap.objs.size s3 H3 fp (X.pn++pins)) [] σ' H' s'/\tn i s'.heap/\(∀ b∈fp,H' b=none)/\W i n ys σ' H') ?_ m0 ⟨0,[],YB src σ,H3,I4,T.keep _ _ _ st3 λb _ o e=>fC b o e,λb hb=>(f3 b hb).1,w0⟩;rintro n s5 ⟨i,ys,iJ,H5,I5,iD,jO,w5⟩;obtain ⟨R5,stop | go⟩:=turn i n ys iJ H5 w5
  ·obtain ⟨stop,qn⟩:=stop
   refine aA (T.done (bY X scope N' cl s3.heap.objs.size s3 H3 fp (X.pn++pins)) rfl rfl rfl hc i [] s5 iJ H5 _ I5 (stat jO) iD stop) λr s6 ⟨hr,I6⟩=>?_
   subst hr;obtain ⟨m,hn,_⟩:=id I6.loc;exact done D _ s6 H5 (λh' sb=>fin I6 h' sb) ⟨m,hn⟩ I6.free (λz=>iI.gZ (Κ _) z) qn
  ·obtain ⟨go,N,hN,step⟩:=go
   refine aA (T.item (bY X scope N' cl s3.heap.objs.size s3 H3 fp (X.pn++pins)) rfl rfl rfl hc i [] s5 iJ H5 _ I5 (stat jO) iD go) λr s6 ⟨u,hr,h6⟩=>?_
   subst hr;refine aA h6 λ_ s7 ⟨x,H7,I7,r7,y7,jQ,wG⟩=>?_
   have wH:=I7.pinned (stat wG) (T.obj _ _ jQ);have again:∀ {s8:Δ} {dh:St} {H8:Hp} {ys':List V},Inv (bY X scope N' cl s3.heap.objs.size s3 H3 fp (X.pn++pins)) ([]++Vj fp s7.heap) dh H8 s8->(∃ m',m'<n/\W (i+1) m' ys' dh H8) ->
     ∃ m,m<n/\∃ i ys σ' H',Inv (bY X scope N' cl s3.heap.objs.size s3 H3 fp (X.pn++pins)) [] σ' H' s8/\tn i s8.heap/\(∀ b∈fp,H' b=none)/\W i m ys σ' H':=λ{s8 dh H8 ys'} I8 ⟨m',hm,w8⟩=>by
    refine ⟨m',hm,i+1,ys',dh,H8,I8.cX,T.keep _ _ _ jQ λb hb o e=>(I8.pin (b,o) (ψ _ (ψ _ (XH hb e)))).1,λb hb=>?_,w8⟩;obtain ⟨o,e,d⟩:=T.obj _ _ jQ b hb;exact (I8.pin (b,o) (ψ _ (ψ _ (XH hb e)))).2.1
   refine aA (hg _ s3 H3 fp _ _ s7 iJ H7 x u _ wH r7 (step x H7 y7)) λ_ s8 ⟨dh,H8,I8,q8⟩=>?_
   refine aA (ht _ s3 H3 fp _ _ s8 dh H8 _ I8 q8) λok s9 ⟨H9,I9,q9⟩=>?_
   cases ok with
   | false=>exact again I9 (hN _ _ _ q9)
   | true =>
    rw [if_pos rfl];refine bb (he _ s3 H3 fp _ _ s9 dh H9 _ (I9.wish _) q9) (λy bO ⟨yv,oO,Nq,r10,wI⟩=>?_) (gone D s3 H3 fp iI fin);have wJ:=Nq.cM;obtain ⟨jR,hlen,w10⟩:=wI;refine aA (Xm (X:=bY X scope N' cl s3.heap.objs.size s3 H3 fp (X.pn++pins)) _ bO dh oO (.ref D) [yv] (.ref D) [y] (λ_ H'=>H'=upd oO D (.lst (ys++[yv]))) wJ rfl (.cons r10 .nil) ⟨ys,jR,hlen,rfl⟩) λ_ R6 ⟨_,R7,wK,_,wL⟩=>?_
    subst wL;exact again wK (hN _ _ _ w10)
 exact codeAny_compStart_list loop (T.self _ 0 _ _ _ (T.keep _ _ _ st3 λb _ o e=>fC b o e) loop)
theorem Xt {elt tg iter:Expr} {ifs:List Expr} {scope:db} {pos:Pos} {src:List (Option Nat)} {N':List Str} {wi:TI} {g:TG} {tt:TT} {te:TE} (hcap:dW X scope src N') (hc:X.calm=true) (hi:PI X tg iter wi)
  (hg:∀ cl C s₀ H₀ fp pn,PG (bY X scope N' cl C s₀ H₀ fp pn) tg g) (ht:∀ cl C s₀ H₀ fp pn,lO (bY X scope N' cl C s₀ H₀ fp pn) ifs tt) (he:∀ cl C s₀ H₀ fp pn,PE (bY X scope N' cl C s₀ H₀ fp pn) elt te)
  (hfree:∀ x,(x,ο)∈scope.names->X.env.scope.names.lookup x=some ci\/X.env.scope.names.lookup x=some ο:=by intro x hx;simp at hx;first | (subst hx;exact .inl rfl) | (rcases hx with rfl | rfl<;>exact .inl rfl) | (rcases hx with rfl | rfl | rfl<;>exact .inl rfl) | (rcases hx with rfl | rfl | rfl | rfl<;>exact .inl rfl) | (rcases hx with rfl | rfl | rfl | rfl | rfl<;>exact .inl rfl))
  (hk:scope.kind = .function:=by rfl) (hcell:∀ y∈scope.names,y.2 ≠ .cell:=by decide) (hnames:∀ y∈scope.names,y.2 = .local->scope.names.lookup y.1=some .local:=by decide +kernel)
  (hs:∀ x,gy iter X.env x=pure x:=by intro _;rfl):PE X (.ListComp elt [⟨tg,iter,ifs,0⟩] scope pos) (c7 src wi g tt te):=by
 intro pins s σ H Q I h;obtain ⟨cl,hcl,a,b⟩:=Vz X.env scope λx hx=>I.ok.has x (hfree x hx)
 rw [eval_ListComp];refine wpAny_comprehension_free (use:=none) rfl hs hcl hk hnames (aA (hi pins s σ H _ I h) λv s1 h1=>aA h1 λitv s2 h2=>?_);exact Fq (Po:=λv C=>compPost (Ω X.prog X.w) X.A X.xe none (EP X pins σ Q) v C) (Z:=λ_ _ _ _ _ _ _=>False) hcap hc (hg cl) (ht cl) (he cl) hk hcell a b h2 (λD C s6 H5 fi ⟨m,hn⟩ _ _ qn=>⟨m,hn,λh' sb=>⟨.ref D,H5,fi h' sb,rfl,qn⟩⟩) λ_ _ _ _ _ _ _ _ z=>z.elim
end
def VB (x:Str) (lo hi:Option Int):Str:=⟨((x.cps.toList.drop (HT.aL x.length 0 lo)).take (HT.aL x.length x.length hi - HT.aL x.length 0 lo)).toArray⟩
theorem U5 (lo hi:Option Int) (n:Nat):bo lo hi 1 n=(η (HT.aL n n hi - HT.aL n 0 lo)).map λk=>HT.aL n 0 lo+k:=by
 have clip:∀ (v:Int) (d:Nat),max 0 (min (if v<0 then v+(n:Int) else v) (n:Int))=((HT.aL n d (some v):Nat):Int):=λv d=>by
  show _=(((if v<0 then (v+(n:Int)).toNat else min v.toNat n):Nat):Int)
  by_cases hv:v<0
  ·simp only [if_pos hv];omega
  ·simp only [if_neg hv];omega
 have key:∀ (i j:Nat),iL (i:Int) (j:Int) 1=(η (j - i)).map λk=>i+k:=λi j=>by
  unfold iL;have e:(if (1:Int)>0 then (if (i:Int)<(j:Int) then ((j:Int) - (i:Int)+1 - 1) / 1 else 0) else (if (i:Int)>(j:Int) then ((i:Int) - (j:Int) - 1 - 1) / (-1) else 0)).toNat=j - i:=by
   rw [if_pos (by decide)];by_cases h:(i:Int)<(j:Int)
   ·rw [if_pos h,gg];omega
   ·rw [if_neg h];omega
  dsimp only;rw [e];refine a5 λk _=>?_
  omega
 have lo':(match lo with | none=>(0:Int) | some v=>max 0 (min (if v<0 then v+(n:Int) else v) (n:Int)))=((HT.aL n 0 lo:Nat):Int):=by
  cases lo with
  | none=>rfl
  | some v=>exact clip v 0
 have hi':(match hi with | none=>(n:Int) | some v=>max 0 (min (if v<0 then v+(n:Int) else v) (n:Int)))=((HT.aL n n hi:Nat):Int):=by
  cases hi with
  | none=>rfl
  | some v=>exact clip v n
 rw [<- key,<- lo',<- hi'];unfold bo
 cases lo<;>cases hi<;>simp
theorem Ft (x:Str) (lo hi:Option Int):Txt.slice x lo hi=VB x lo hi:=by
 have afa:=HT.jP x.length 0 (ι _) lo;have afb:=HT.jP x.length x.length (Κ _) hi;have core:((bo lo hi 1 x.length).filterMap (x.cps[·]?))=(x.cps.toList.drop (HT.aL x.length 0 lo)).take (HT.aL x.length x.length hi - HT.aL x.length 0 lo):=by
  rw [U5,gs];generalize HT.aL x.length 0 lo=i;generalize HT.aL x.length x.length hi - i=k;have gen:∀ (l:List Nat) (k:Nat),(η k).filterMap (λm=>l[m]?)=l.take k:=by
   intro l k
   induction k with
   | zero=>simp
   | succ k ih =>
    rw [cK,fv,ih];by_cases hk:k<l.length
    ·rw [List.take_succ_eq_append_getElem hk];simp [hk]
    ·have h1:l.take (k+1)=l:=af (by omega)
     have h2:l.take k=l:=af (by omega);rw [h1,h2];simp [hk]
  have e:((λj=>x.cps[j]?) ∘ λk=>i+k)=λm=>(x.cps.toList.drop i)[m]?:=by
   funext m
   simp [List.getElem?_drop]
  rw [e,gen]
 unfold Txt.slice VB;rw [core]
 split
 ·rename_i h
  simp only [beq_self_eq_true,Bool.true_and,beq_iff_eq] at h;rw [U5,Β,aS] at h
  have h0:HT.aL x.length 0 lo=0\/x.length=0:=by omega
  have e:(x.cps.toList.drop (HT.aL x.length 0 lo)).take (HT.aL x.length x.length hi - HT.aL x.length 0 lo)=x.cps.toList:=by
   have hl:x.cps.toList.length=x.length:=by simp [jn]
   rcases h0 with h0 | h0
   ·rw [h,h0,List.drop_zero,af (by omega)]
   ·have:x.cps.toList=[]:=List.eq_nil_of_length_eq_zero (by omega)
    rw [this];simp
  rw [e]
 ·rfl
theorem Qv (x:Str) (lo hi:Option Int):(VB x lo hi).length<=x.length:=by
 rw [<- Ft];exact Txt.slice_le x lo hi
def Nr:V->Option Int->Option Int->Hp->VK->Prop:=λx lo hi H Q=>∃ z,x = .str z/\z.length<=sizeLine/\Q (.str (VB z lo hi)) H
section
variable {X:Cx}
theorem R8:v8 X Nr:=by
 intro pins s σ H x v vl vu lo hi sl Q I rx hs pl pu h;obtain ⟨z,rfl,hz,q⟩:=h;obtain ⟨t,rfl⟩:=rx;refine ⟨"str",_,F.slot_str_getitem.lookup,typeIs_str _ _ _,?_⟩;have fin:∀ (l u:Option (Int×Tok)),l.map (·.1)=lo->u.map (·.1)=hi->s.heap.IsSlice sl l u none->Χ (Ω X.prog X.w) X.A (eP (.str z t) (.ref sl)) (EP X pins σ Q) X.xe s:=λl u el eu hsl=>by
  refine wpAny_getItem_str_slice (l:=l) (u:=u) (st:=none) hsl rfl ?_;have e:(if (((none:Option (Int×Tok)).map (·.1)).getD 1==1&&(slicePicked z l u none).length==z.length)=true then z else ⟨((slicePicked z l u none).filterMap (z.cps[·]?)).toArray⟩)=VB z lo hi:=by
   rw [<- Ft,<- el,<- eu];rfl
  refine post_val_or_str ⟨by rw [e];exact Ο (Qv z lo hi) hz,λt' k=>?_⟩;rw [e];exact ⟨.str (VB z lo hi),H,I.tok k,⟨t',rfl⟩,q⟩
 obtain ⟨o,ho,hc,hd⟩:=hs
 cases pl with
 | none =>
  cases pu with
  | none=>exact fin none none rfl rfl ⟨o,ho,hc,hd⟩
  | int j tj=>exact fin none (some (j,tj)) rfl rfl ⟨o,ho,hc,hd⟩
 | int i ti =>
  cases pu with
  | none=>exact fin (some (i,ti)) none rfl rfl ⟨o,ho,hc,hd⟩
  | int j tj=>exact fin (some (i,ti)) (some (j,tj)) rfl rfl ⟨o,ho,hc,hd⟩
def Its (x:Str):It:=⟨λi _=>i<x.length,λi H v H'=>H'=H/\∃ c,x.cps.toList[i]?=some c/\v = .str ⟨#[c]⟩,λi _=>x.length<=i⟩
theorem R9 {P:ζ} {w:ν} {K:Ι} {tg:Expr} (x:Str) (t:Tok) (it:Addr):Turn P w K tg (Its x) [it] it (λi h=>h.IsStrIter it "str_ascii_iterator" x t i\/h.IsStrIter it "str_iterator" x t i) where
 mem:=by simp
 obj:=λi h st b hb=>by
  have e:b=it:=by simpa using hb
  subst e;rcases st with ⟨o,e,c,d⟩ | ⟨o,e,c,d⟩<;>exact ⟨o,e,λv z=>by rw [d] at z;cases z⟩
 keep:=λi h h' st k=>by
  rcases st with ⟨o,e,c⟩ | ⟨o,e,c⟩
  ·exact .inl ⟨o,k it (by simp) o e,c⟩
  ·exact .inr ⟨o,k it (by simp) o e,c⟩
 item:=by
  intro X hP hw hK hc i pins s σ H E I hf st hg;subst hP hw hK;have hi:i<x.cps.size:=hg;have hx:x.cps[i]?=some x.cps[i]:=by simp [hi]
  obtain ⟨f0,f1,f2,f3,f4,f5⟩:=hf it (by simp);have fin:∀ (ty:String) (h':Heap),["enumerate","zip","dict_itemiterator","dict_reverseitemiterator","odict_iterator","itertools.zip_longest","itertools.pairwise"].contains ty=false->h'.IsStrIter it ty x t (i+1)->br it s.heap h' ->
    (h'.IsStrIter it ty x t (i+1)->(h'.IsStrIter it "str_ascii_iterator" x t (i+1)\/h'.IsStrIter it "str_iterator" x t (i+1))) ->
    ∃ u,some (hW ⟨#[x.cps[i]]⟩ s.toks)=some u/\Χ (Ω X.prog X.w) X.A (eR tg (.ref it) u) (λ_ s2=>∃ y H',Inv X pins σ H' s2/\YD y u/\(Its x).iB i H y H' /\
     (s2.heap.IsStrIter it "str_ascii_iterator" x t (i+1)\/s2.heap.IsStrIter it "str_iterator" x t (i+1))/\∀ b∈[it],H' b=none) E { s with heap:=h',toks:=s.toks+1 }:=λty h' hn st' sb hor=>by
   have I1:Inv X pins σ H { s with heap:=h',toks:=s.toks+1 }:=I.turned (t':=s.toks+1) (λb o hb e=>(sb.2 b hb).trans e) f0 f1 f3 f4 f5;obtain ⟨o,e,c,d⟩:=id st';exact ⟨_,rfl,UT (s:={ s with heap:=h',toks:=s.toks+1 }) e c d hn ⟨.str ⟨#[x.cps[i]]⟩,H,I1,⟨_,rfl⟩,⟨rfl,x.cps[i],by simp [hi],rfl⟩,hor st',λb hb=>(hf b hb).1⟩⟩
  rcases st with st | st
  ·exact wpAny_pyNext_ascii_item st hx λh' st' sb=>fin _ h' (by decide) st' sb .inl
  ·exact wpAny_pyNext_wide_item st hx λh' st' sb=>fin _ h' (by decide) st' sb .inr
 done:=by
  intro X hP hw hK hc i pins s σ H E I hf st hg;subst hP hw hK;have hi:x.cps.size<=i:=hg;have hx:x.cps[i]?=none:=by simp [hi]
  obtain ⟨f0,f1,f2,f3,f4,f5⟩:=hf it (by simp);rcases st with st | st
  ·exact wpAny_pyNext_ascii_end (I.ok.hd hc) st hx λh' eb=>⟨rfl,I.turned (t':=s.toks) (λb o hb e=>eb b o hb e) f0 f1 f3 f4 f5⟩
  ·exact wpAny_pyNext_wide_end (I.ok.hd hc) st hx λh' eb=>⟨rfl,I.turned (t':=s.toks) (λb o hb e=>eb b o hb e) f0 f1 f3 f4 f5⟩
 self:=λA i s Q E st h=>by
  rcases st with st | st
  ·exact wpAny_pyIter_slot st.typeIs F.slot_str_ascii_iterator_iter (fE F.slot_str_ascii_iterator_iter st.typeIs F.entry_str_ascii_iterator_iter (Ν ⟨_,rfl,"str_ascii_iterator",_,st.typeIs,F.slot_str_ascii_iterator_next.lookup,h⟩) (F.args_str_ascii_iterator_iter_1 _))
  ·exact wpAny_pyIter_slot st.typeIs F.slot_str_iterator_iter (fE F.slot_str_iterator_iter st.typeIs F.entry_str_iterator_iter (Ν ⟨_,rfl,"str_iterator",_,st.typeIs,F.slot_str_iterator_next.lookup,h⟩) (F.args_str_iterator_iter_1 _))
end
section
variable {X:Cx} {tg:Expr}
def wM (tl:TE):TI:=λσ H R=>tl σ H λx H1=>∃ z,x = .str z/\R (Its z) H1
theorem Sd {l:Expr} {tl:TE} (hl:PE X l tl):PI X tg l (wM tl):=by
 intro pins s σ H R I h;refine aA (hl pins s σ H _ I h) λv s1 ⟨x,H1,I1,r1,q1⟩=>?_
 obtain ⟨z,e,q⟩:=q1;subst e;obtain ⟨t,rfl⟩:=r1;refine wpAny_pyIter_strU ?_;refine ⟨s1.heap.objs.size,[s1.heap.objs.size],_,_,H1,rfl,I1.kept (t':=s1.toks) λb o e=>Ρ _ e,R9 z t _,?_,λb hb=>?_,q⟩
 ·unfold strIterType
  split
  ·exact .inl ⟨_,ah _ rfl,rfl,rfl⟩
  ·exact .inr ⟨_,ah _ rfl,rfl,rfl⟩
 ·have e:b=s1.heap.objs.size:=by simpa using hb
  subst e;exact I1.gZ (Κ _) (I1.hok.fresh (Κ _))
def Wd (J:It) (P:Hp->Prop) (xs:List V):Prop:=∀ H,P H->∀ i,(∀ x,xs[i]?=some x->J.go i H/\∀ y H',J.iB i H y H'->H'=H/\y=x)/\(xs.length<=i->J.stop i H)
theorem Sg (z:Str) (P:Hp->Prop):Wd (Its z) P (z.cps.toList.map λc => .str ⟨#[c]⟩):=λH _ i=>by
 refine ⟨λx hx=>?_,λhi=>?_⟩
 ·rw [Λ] at hx
  cases e:z.cps.toList[i]? with
  | none=>rw [e] at hx;simp at hx
  | some c =>
   rw [e] at hx
   have hx':V.str ⟨#[c]⟩=x:=by simpa using hx
   subst hx';have hi:i<z.cps.toList.length:=(Η.mp e).1;refine ⟨by show i<z.cps.size;simpa using hi,λy H' ⟨e1,c',e2,e3⟩=>⟨e1,?_⟩⟩;rw [e] at e2
   cases e2
   exact e3
 ·show z.cps.size<=i
  simpa using hi
theorem Sq {K:Ι} {a:Addr} {xs:List V}:Wd (lG K a) (λH=>aH K H a xs) xs:=λH hq i=>by
 refine ⟨λx hx=>⟨⟨xs,x,hq,hx⟩,λy H' ⟨e1,e2⟩=>⟨e1,?_⟩⟩,λhi=>⟨xs,hq,hi⟩⟩;have:=e2 xs hq;rw [hx] at this
 exact (Γ this).symm
theorem XW {K:Ι} {a:Addr} {xs:List V}:Wd (lF K a) (λH=>ao K H a xs) xs:=λH hq i=>by
 refine ⟨λx hx=>⟨⟨xs,x,hq,hx⟩,λy H' ⟨e1,e2⟩=>⟨e1,?_⟩⟩,λhi=>⟨xs,hq,hi⟩⟩;have:=e2 xs hq;rw [hx] at this
 exact (Γ this).symm
theorem Wz {lo:Int} {n:Nat} {P:Hp->Prop}:Wd (iC lo n) P ((η n).map λ(i:Nat)=>V.int (lo+i)):=λH hq i=>by
 refine ⟨λx hx=>?_,λhi=>by show n<=i;simpa using hi⟩;have hi:i<n:=by
  have:=(Η.mp hx).1;simpa using this
 refine ⟨hi,λy H' ⟨e1,e2⟩=>⟨e1,?_⟩⟩;rw [Λ,aI hi] at hx
 rw [e2];simpa using hx
theorem Wd.imp {J:It} {P P':Hp->Prop} {xs:List V} (h:Wd J P xs) (hp:∀ H,P' H->P H):Wd J P' xs:=λH q=>h H (hp H q)
theorem Cz {J:It} {P:Hp->Prop} {xs:List V} (hJ:Wd J P xs) {src:List (Option Nat)} {g:TG} {tt:TT} {te:TE} {σ:St} {H1:Hp} {Q:VK} {D:Addr} (Pv:Nat->List V->St->Hp->Prop)
  (h0:Pv 0 [] (YB src σ) (upd H1 D (.lst []))) (hP:∀ i ys σ' H',Pv i ys σ' H'->P H'/\H' D=some (.lst ys))
  (step:∀ i ys σ' H' x,xs[i]?=some x->Pv i ys σ' H'->g x σ' H' λσ2 H4=>tt σ2 H4 λb H5=>if b=true then te σ2 H5 λy H6=>H6 D=some (.lst ys)/\ys.length<sizeLine/\Pv (i+1) (ys++[y]) σ2 (upd H6 D (.lst (ys++[y]))) else Pv (i+1) ys σ2 H5)
  (fin:∀ ys σ' H',Pv xs.length ys σ' H'->Q (.ref D) H') :
  LC src J g tt te σ H1 Q D:=by
 refine ⟨λi m ys σ' H'=>m=xs.length - i/\i<=xs.length/\Pv i ys σ' H',⟨xs.length,by simp,ι _,h0⟩,?_⟩;rintro i m ys σ' H2 ⟨rfl,hi,p⟩;obtain ⟨hp,hD⟩:=hP i ys σ' H2 p;refine ⟨hD,?_⟩;by_cases hlt:i<xs.length
 ·obtain ⟨go,yl⟩:=(hJ H2 hp i).1 xs[i] (by simp [hlt])
  refine .inr ⟨go,λys' σ3 H3=>Pv (i+1) ys' σ3 H3,λys' σ3 H3 p'=>⟨xs.length - (i+1),by omega,rfl,hlt,p'⟩,λx H3 y=>?_⟩;obtain ⟨e1,e2⟩:=yl x H3 y;subst e1 e2;exact step i ys σ' _ _ (by simp [hlt]) p
 ·have e:i=xs.length:=by omega
  subst e;exact .inl ⟨(hJ H2 hp _).2 (Κ _),fin ys σ' H2 p⟩
theorem Yj.aj {H:Hp} {p:Addr} (h:H p=none) (o:HO):Yj H (upd H p o):=λb u q=>by rw [Yh (Ym q h)];exact q
theorem Yj.bV {H H':Hp} {p:Addr} (h:H p=none) (e:Yj H H') (o:HO):Yj H (upd H' p o):=λb u q=>by rw [Yh (Ym q h)];exact e b u q
theorem Yj.tup {K:Ι} {H H':Hp} {a:Addr} {xs:List V} (e:Yj H H') (h:aH K H a xs):aH K H' a xs:=by
 rcases h with (h | ⟨o,h⟩) | h
 ·exact .inl (.inl (e _ _ h))
 ·exact .inl (.inr ⟨o,e _ _ h⟩)
 ·exact .inr h
end
section
variable {X:Cx}
theorem Fv:∀ {ys:List Str} {us:List Α},Yt (ys.map V.str) us->StrsAre us ys
 | [],_,h=>by rw [Yt.zero h];exact .nil
 | y::ys,us,h=>by
  have h':Yt (V.str y::ys.map V.str) us:=h
  cases h' with
  | cons r t=>obtain ⟨t',rfl⟩:=r;exact .cons y t' (Fv t)
def rJoin (K:Ι):V->List V->Hp->VK->Prop:=λx vs H Q=>∃ (z:Str) (p:Addr) (ys:List Str),x = .str z/\vs=[.ref p]/\ao K H p (ys.map V.str)/\(ys.map (·.length)).sum+ys.length*z.length<=16777216/\Q (.str (Txt.join z ys)) H
theorem Ss:tK X "str.join" (rJoin X.K):=by
 intro pins s σ H x vs v us Q I rx rv h;obtain ⟨z,p,ys,rfl,rfl,hq,hl,q⟩:=h;obtain ⟨t,rfl⟩:=rx;obtain ⟨u,rfl,ru⟩:=rv.one
 cases ru
 obtain ⟨its,r,pl,hz⟩:=I.list hq;exact join_list pl.isList (by simpa using Fv r) hl λt' k=>⟨.str _,H,I.tok k,⟨t',rfl⟩,q⟩
def tV:V->Option Α
 | .ty n=>some (.type n)
 | .ref a=>some (.ref a)
 | _=>none
inductive Nt (K:Ι) (t cv:Α) (Q:Bool->Prop):Prop
 | mk (b:Bool) (h3:W.kitOne K t cv=some b) (q:Q b)
inductive Sv (K:Ι) (H:Hp) (x c:V) (Q:Bool->Prop):Prop
 | mk (cv:Α) (h1:tV c=some cv) (t:Α) (h2:cA K H x t) (q:Nt K t cv Q)
def wN (K:Ι):List V->Hp->VK->Prop:=λxs H Q=>k2 xs λx c=>Sv K H x c λb=>Q (.bl b) H
theorem Xb:XI X (.builtin "isinstance") (wN X.K):=by
 intro pins s σ H xs us Q I r h;obtain ⟨x,c,rfl,cv,ec,t,ty,b,e,q⟩:=qU h;obtain ⟨u,w',rfl,ru,fK⟩:=tG r;have ew:w'=cv:=by
  cases c with
  | ty n=>cases (show w'=Value.type n from fK);simpa [tV] using ec
  | ref a=>cases (show w'=ω a from fK);simpa [tV] using ec
  | _=>simp [tV] at ec
 subst ew;exact Ra I ru ty e λtk=>⟨.bl b,H,I.tok tk,rfl,q⟩
end
structure Sub (P:ζ) (w:ν) (i:Addr) (St:Nat->Heap->Prop) (Xk:Heap->(Nat->Option Α)->Prop):Prop where
 obj:∀ k h,St k h->∃ o,h.get? i=some o/\∀ v,o.data ≠ .cell v
 keep:∀ k h h',St k h->(∀ o,h.get? i=some o->h'.get? i=some o)->St k h'
 item:∀ (A:ag) (k:Nat) (s:Δ) (get:Nat->Option Α) (x:Α) (Q:Α->Δ->Prop) (E:Α->Δ->Prop),St k s.heap->Xk s.heap get->get k=some x ->
  (∀ h' tk,St (k+1) h'->br i s.heap h'->Q x { s with heap:=h',toks:=tk })->Χ (Ω P w) A (Builtin.SmallTypes.nextOf (.ref i)) Q E s
 fin:∀ (A:ag) (k:Nat) (s:Δ) (get:Nat->Option Α) (Q:Α->Δ->Prop) (E:Α->Δ->Prop),A.handled=none->St k s.heap->Xk s.heap get->get k=none ->
  (∀ h' e,Heap.ExtBut i s.heap h'->(∃ o,h'.get? e=some o/\o.cls = .type "StopIteration")->E (.ref e) { s with heap:=h' })->Χ (Ω P w) A (Builtin.SmallTypes.nextOf (.ref i)) Q E s
section
variable {X:Cx} {pins:List (Addr×Obj)} {σ:St} {H:Hp} {s:Δ} {h':Heap}
theorem Inv.u6 {t':Nat} {ch:List Addr} (I:Inv X pins σ H s) (k:∀ b o,b∉ch->s.heap.get? b=some o->h'.get? b=some o) (hf:∀ b∈ch,X0 X pins H b):Inv X pins σ H { s with heap:=h',toks:=t' }:=by
 have jo:∀ b u,H b=some u->b∉ch:=λb u e z=>by rw [(hf b z).1] at e;cases e
 refine I.step (g':=s.gens) (d':=s.drawn) (ch:=ch) (λb hb=>?_) (λb o _ _ hc e _=>k b o hc e) (λb o _ _ hc e _=>⟨o.slots,k b o hc e⟩) (λ_ _ _ _ n=>n)
  (λb o hc e=>⟨o,k b o hc e⟩) (λ_ _ e=>e) (λ_ _ _ e=>e) (λb ps e=>⟨#[],by rw [e];simp⟩) (λm hm=>?_) (λb u e=>?_) I.bare
 ·obtain ⟨f0,f1,f2,f3,f4,f5⟩:=hf b hb
  exact ⟨f3,f1,f4,f5⟩
 ·obtain ⟨o,es,ep,ho,r⟩:=hm
  exact ⟨o,es,ep,k _ o (λz=>(hf _ z).2.1 rfl) ho,r⟩
 ·refine (I.hok b u e).stay (λc v hc q=>k c v ?_ q) (λ_ q=>q) λ_ _ q=>q
  rcases hc with z | z
  ·rw [z];exact jo b u e
  ·exact jo c _ z
theorem Inv.u9 {t':Nat} {ch:List Addr} {T:Addr} {vs:List V} (I:Inv X pins σ H s) (k:∀ b o,b∉ch->s.heap.get? b=some o->h'.get? b=some o) (hf:∀ b∈ch,X0 X pins H b) (hT:s.heap.objs.size<=T)
  (new:YV X.prog X.w (upd H T (.tup vs)) h' T (.tup vs)):Inv X pins σ (upd H T (.tup vs)) { s with heap:=h',toks:=t' }:=by
 have hn:H T=none:=I.hok.fresh hT;have jo:∀ b u,H b=some u->b∉ch:=λb u e z=>by rw [(hf b z).1] at e;cases e
 have nT:∀ b o,s.heap.get? b=some o->b≠T:=λb o e z=>absurd (Ψ e) (by rw [z];exact iN.mpr hT)
 have up:∀ b u,H b=some u->upd H T (.tup vs) b=some u:=λb u e=>by rw [Yh (Ym e hn)];exact e
 refine I.step (g':=s.gens) (d':=s.drawn) (ch:=ch) (λb hb=>?_) (λb o _ _ hc e _=>k b o hc e) (λb o _ _ hc e _=>⟨o.slots,k b o hc e⟩) (λb o _ e n=>by rw [Yh (nT b o e)];exact n)
  (λb o hc e=>⟨o,k b o hc e⟩) (λb xs e=>up b _ e) (λb o u e=>up b _ e) (λb ps e=>⟨#[],by rw [up b _ e];simp⟩) (λm hm=>?_) (λb u e=>?_) I.bare
 ·obtain ⟨f0,f1,f2,f3,f4,f5⟩:=hf b hb
  exact ⟨f3,f1,f4,f5⟩
 ·obtain ⟨o,es,ep,ho,r⟩:=hm
  exact ⟨o,es,ep,k _ o (λz=>(hf _ z).2.1 rfl) ho,r⟩
 ·by_cases hb:b=T
  ·subst hb;rw [Yc] at e;cases e;exact new
  ·rw [Yh hb] at e
   refine (I.hok b u e).stay (λc v hc q=>k c v ?_ q) (λc q=>up c _ q) λc xs q=>up c _ q
   rcases hc with z | z
   ·rw [z];exact jo b u e
   ·exact jo c _ z
end
section
variable {X:Cx} {elts:List Expr} {kk:Nat} {tpos:Pos}
theorem Sx {J:It} {P:Hp->Prop} {n:Nat} (hgo:∀ i H,P H->i<n->J.go i H) (hstop:∀ H,P H->J.stop n H) {src:List (Option Nat)} {g:TG} {tt:TT} {te:TE} {σ:St} {H1:Hp} {Q:VK} {D:Addr} (Pv:Nat->List V->St->Hp->Prop)
  (h0:Pv 0 [] (YB src σ) (upd H1 D (.lst []))) (hP:∀ i ys σ' H',Pv i ys σ' H'->P H'/\H' D=some (.lst ys))
  (step:∀ i ys σ' H',i<n->Pv i ys σ' H'->∀ x H3,J.iB i H' x H3->g x σ' H3 λσ2 H4=>tt σ2 H4 λb H5=>if b=true then te σ2 H5 λy H6=>H6 D=some (.lst ys)/\ys.length<sizeLine/\Pv (i+1) (ys++[y]) σ2 (upd H6 D (.lst (ys++[y]))) else Pv (i+1) ys σ2 H5)
  (fin:∀ ys σ' H',Pv n ys σ' H'->Q (.ref D) H') :
  LC src J g tt te σ H1 Q D:=by
 refine ⟨λi m ys σ' H'=>m=n - i/\i<=n/\Pv i ys σ' H',⟨n,by simp,ι _,h0⟩,?_⟩;rintro i m ys σ' H2 ⟨rfl,hi,p⟩;obtain ⟨hp,hD⟩:=hP i ys σ' H2 p;refine ⟨hD,?_⟩;by_cases hlt:i<n
 ·refine .inr ⟨hgo i H2 hp hlt,λys' σ3 H3=>Pv (i+1) ys' σ3 H3,λys' σ3 H3 p'=>⟨n - (i+1),by omega,rfl,hlt,p'⟩,λx H3 y=>step i ys σ' H2 hlt p x H3 y⟩
 ·have e:i=n:=by omega
  subst e;exact .inl ⟨hstop H2 hp,fin ys σ' H2 p⟩
theorem W9 {J:It} {P:Hp->Prop} {xs:List V} (hJ:Wd J P xs) {src:List (Option Nat)} {g:TG} {te:TE} {σ:St} {H1:Hp} {Q:VK} {D:Addr} (Pv:Nat->List V->St->Hp->Prop)
  (h0:Pv 0 [] (YB src σ) (upd H1 D (.lst []))) (hP:∀ i ys σ' H',Pv i ys σ' H'->P H'/\H' D=some (.lst ys))
  (mono:∀ x σ H Q Q',(∀ σ' H',Q σ' H'->Q' σ' H')->g x σ H Q->g x σ H Q')
  (step:∀ i ys σ' H' x,xs[i]?=some x->Pv i ys σ' H'->g x σ' H' λσ2 H4=>te σ2 H4 λy H6=>H6 D=some (.lst ys)/\ys.length<sizeLine/\Pv (i+1) (ys++[y]) σ2 (upd H6 D (.lst (ys++[y]))))
  (fin:∀ ys σ' H',Pv xs.length ys σ' H'->Q (.ref D) H'):LC src J g XO te σ H1 Q D :=
 Cz hJ Pv h0 hP (λi ys σ' H' x hx p=>by
  refine mono _ _ _ _ _ ?_ (step i ys σ' H' x hx p);intro σ2 H4 q;unfold XO;dsimp only;rw [if_pos rfl];exact q) fin
theorem XX (i:Nat):∀ x σ H Q Q',(∀ σ' H',Q σ' H'->Q' σ' H')->Yy i x σ H Q->Yy i x σ H Q':=λ_ _ _ _ _ h q=>h _ _ q
end
structure Gx where
 P:ζ
 w:ν
 K:Ι
 mg:Str->Option Α
 base:Heap
def Cx.gx (X:Cx):Gx:=⟨X.prog,X.w,X.K,X.mg,X.base⟩
def Gx.Raw (g:Gx) (x qual:Str) (st:Stmt) (ps:List Str):Prop:=∃ f fd,gK g.K x qual st f fd/\Xf g.K fd ps []/\g.mg x=some (.ref f)
def Gx.Fn (g:Gx) (k:Nat) (x:Str) (ps:List Str) (sp:Sp):Prop:=∃ f fd,bM g.P g.w g.K g.mg g.base fY k f fd ps sp/\Xf g.K fd ps []/\ff g.K (.ref f)=true/\g.mg x=some (.ref f)
def Gx.aD (g:Gx) (C:Addr) (m qual:Str) (st:Stmt) (ps:List Str):Prop:=∃ f fd,gK g.K m qual st f fd/\Xf g.K fd ps []/\Meth g.K C m f
def Gx.Me (g:Gx) (k:Nat) (C:Addr) (m:Str) (ps:List Str) (sp:Sp):Prop:=∃ f fd,bM g.P g.w g.K g.mg g.base fY k f fd ps sp/\Xf g.K fd ps []/\Meth g.K C m f
def Gx.bB (g:Gx) (x:Str) (C:Addr) (qual:Str) (st:Stmt) (ps:List Str):Prop:=∃ f fd,gK g.K "__init__" qual st f fd/\Xf g.K fd ps []/\Mk g.K C f/\g.mg x=some (.ref C)
def Gx.Ma (g:Gx) (k:Nat) (x:Str) (C:Addr) (ps:List Str) (sp:Sp):Prop:=∃ f fd,bM g.P g.w g.K g.mg g.base fY k f fd ps sp/\Xf g.K fd ps []/\Mk g.K C f/\g.mg x=some (.ref C)
abbrev Gx.cx (g:Gx) (N:List Str) (qual:Str) (st:Stmt) (f:Addr) (cdv:Α) (A:ag) (outer:List Env) (s:Δ) (H:Hp) (E:XK):Cx:=(VX fY g.P g.w g.K g.mg g.base N qual (Yk st) f cdv A outer s H E).jL
def V2 (g:Gx) (k:Nat) (N:List Str) (qual:Str) (st:Stmt) (sp:Sp):Prop:=∀ (f:Addr) (cdv:Α) (A:ag) (outer:List Env) (s:Δ) (H:Hp) (vs:List V) (Q:VK) (E:XK),aQ k (g.cx N qual st f cdv A outer s H E).A->sp vs H Q E ->
 ∃ t,eF (g.cx N qual st f cdv A outer s H E) (YZ st) t/\t { nx:=λ_ H'=>Q .non H',rt:=Q } (Wc N vs) H
section
variable {g:Gx} {k:Nat} {x qual m:Str} {st:Stmt} {N ps:List Str} {sp:Sp} {C:Addr}
theorem Gx.Raw.fn (R:g.Raw x qual st ps) (S:ak N ps (Yk st)) (len:∀ vs H Q E,sp vs H Q E->vs.length=ps.length) (b:V2 g k N qual st sp):g.Fn (k+1) x ps sp:=by
 obtain ⟨f,fd,F,bd,hm⟩:=R;exact ⟨f,fd,F.ok S len λcdv A outer s H vs Q E hr h=>b f cdv A outer s H vs Q E hr h,bd,F.kp,hm⟩
theorem Gx.aD.me (R:g.aD C m qual st ps) (S:ak N ps (Yk st)) (len:∀ vs H Q E,sp vs H Q E->vs.length=ps.length) (b:V2 g k N qual st sp):g.Me (k+1) C m ps sp:=by
 obtain ⟨f,fd,F,bd,hm⟩:=R;exact ⟨f,fd,F.ok S len λcdv A outer s H vs Q E hr h=>b f cdv A outer s H vs Q E hr h,bd,hm⟩
theorem Gx.bB.ma (R:g.bB x C qual st ps) (S:ak N ps (Yk st)) (len:∀ vs H Q E,sp vs H Q E->vs.length=ps.length) (b:V2 g k N qual st sp):g.Ma (k+1) x C ps sp:=by
 obtain ⟨f,fd,F,bd,hm,hg⟩:=R;exact ⟨f,fd,F.ok S len λcdv A outer s H vs Q E hr h=>b f cdv A outer s H vs Q E hr h,bd,hm,hg⟩
theorem Gx.Fn.mono {j:Nat} (F:g.Fn j x ps sp) (h:j<=k):g.Fn k x ps sp:=by
 obtain ⟨f,fd,F,r⟩:=F;exact ⟨f,fd,F.mono h,r⟩
theorem Gx.Me.mono {j:Nat} (F:g.Me j C m ps sp) (h:j<=k):g.Me k C m ps sp:=by
 obtain ⟨f,fd,F,r⟩:=F;exact ⟨f,fd,F.mono h,r⟩
theorem Gx.Raw.none (R:g.Raw x qual st ps) (no:∀ vs H Q E,¬ sp vs H Q E):g.Fn k x ps sp:=by
 obtain ⟨f,fd,F,bd,hm⟩:=R;exact ⟨f,fd,⟨λvs H Q E h=>absurd h (no vs H Q E),λA outer s H args us vs Q E _ _ _ _ h=>absurd h (no vs H Q E)⟩,bd,F.kp,hm⟩
theorem Gx.aD.none (R:g.aD C m qual st ps) (no:∀ vs H Q E,¬ sp vs H Q E):g.Me k C m ps sp:=by
 obtain ⟨f,fd,F,bd,hm⟩:=R;exact ⟨f,fd,⟨λvs H Q E h=>absurd h (no vs H Q E),λA outer s H args us vs Q E _ _ _ _ h=>absurd h (no vs H Q E)⟩,bd,hm⟩
end
section
variable {g:Gx} {X:Cx} {k j:Nat} {x m:Str} {ps:List Str} {sp:Sp} {C:Addr} {e o:Expr} {es:List Expr} {t:TA} {ta:TE} {p pos apos:Pos}
theorem Yz (F:g.Fn j x ps sp) (hr:aQ k X.A) (ha:PA X (e::es) t) (hj:j<=k:=by omega) (hX:X.gx=g:=by rfl) (hg:Gl X x:=by rfl) (hdb:(x==("__debug__":Str))=false:=by decide)
  (he:θ (e::es) X.env=(false,eval e X.env)::θ es X.env:=by rfl) (hpl:(bS pos (θ es X.env)).any (·.1)=false:=by rfl):PE X (.Call (.Name x p) (e::es) [] pos) (W7 sp [] E0 t):=by
 subst hX;obtain ⟨f,fd,F,b,kp,hm⟩:=F;exact Ej F (hr.mono hj) hg hm kp b .nil Vy ha hdb he hpl
theorem Xx {pl:Sem Bool} (F:g.Me j C m ps sp) (c:Cls g.K C) (hr:aQ k X.A) (ho:PE X o ta) (ha:PA X (e::es) t) (hj:j<=k:=by omega) (hX:X.gx=g:=by rfl)
  (hst:θ (e::es) X.env=(false,eval e X.env)::θ es X.env:=by rfl) (hpl:(bS pos (θ es X.env)).any (·.1)=false:=by rfl)
  (ht:eval (.Call (.Attribute o m apos) (e::es) [] pos) X.env=(do
   let ov <- eval o X.env
   standAt apos.atName
   let (f,first) <- holding [ov] (iA ov m pl)
   callWith pos f first (bS pos (θ (e::es) X.env)) (iP pos (gE [] X.env))):=by rfl):PE X (.Call (.Attribute o m apos) (e::es) [] pos) (UY C m sp [] E0 ta t):=by
 subst hX;obtain ⟨f,fd,F,b,hm⟩:=F;exact Rg ho c hm F (hr.mono hj) b .nil Vy ha hst hpl ht
theorem WM (F:g.Ma j x C ps sp) (hr:aQ k X.A) (ha:PA X (e::es) t) (hj:j+1<=k:=by omega) (hX:X.gx=g:=by rfl) (hg:Gl X x:=by rfl) (hdb:(x==("__debug__":Str))=false:=by decide)
  (he:θ (e::es) X.env=(false,eval e X.env)::θ es X.env:=by rfl) (hpl:(bS pos (θ es X.env)).any (·.1)=false:=by rfl):PE X (.Call (.Name x p) (e::es) [] pos) (Uo C sp [] E0 t):=by
 subst hX;obtain ⟨f,fd,F,b,M,hm⟩:=F;exact Rh M F (hr.mono hj) hg hm b .nil Vy ha hdb he hpl
theorem YN {id:String} {r:List V->Hp->VK->Prop} (hm:g.mg x=none) (hc:XI X (.builtin id) r) (ha:PA X (e::es) t) (hv:dn x=some (.builtin id):=by decide +kernel) (hX:X.gx=g:=by rfl) (hg:Gl X x:=by rfl) (hn:x≠"__name__":=by decide) (hdb:(x==("__debug__":Str))=false:=by decide)
  (he:θ (e::es) X.env=(false,eval e X.env)::θ es X.env:=by rfl) (hpl:(bS pos (θ es X.env)).any (·.1)=false:=by rfl):PE X (.Call (.Name x p) (e::es) [] pos) (lK r t):=by
 subst hX;exact Rk hc hg hm hv ha hn hdb he hpl
theorem U6 {T:String} {r:List V->Hp->VK->Prop} (hm:g.mg x=none) (hc:XI X (.type T) r) (ha:PA X (e::es) t) (hv:dn x=some (.type T):=by decide +kernel) (hX:X.gx=g:=by rfl) (hg:Gl X x:=by rfl) (hn:x≠"__name__":=by decide) (hdb:(x==("__debug__":Str))=false:=by decide)
  (he:θ (e::es) X.env=(false,eval e X.env)::θ es X.env:=by rfl) (hpl:(bS pos (θ es X.env)).any (·.1)=false:=by rfl):PE X (.Call (.Name x p) (e::es) [] pos) (lK r t):=by
 subst hX;exact Rm hc hg hm hv ha hn hdb he hpl
theorem WA {T:String} (hm:g.mg x=none) (hv:dn x=some (.type T):=by decide +kernel) (hX:X.gx=g:=by rfl) (hg:Gl X x:=by rfl) (hn:x≠"__name__":=by decide) (hdb:(x==("__debug__":Str))=false:=by decide):PE X (.Name x pos) (tC (.ty T)):=by
 subst hX;exact O1 hg hm hv rfl hn hdb
end
def S (l:List Nat):Str:=⟨l.toArray⟩
theorem WD (l:List Nat):(S l).cps.toList=l:=by simp [S]
theorem Xu (l:List Nat):(S l).length=l.length:=by simp [S,jn]
theorem tW (a b:List Nat):S a++S b=S (a++b):=by
 show Str.append (S a) (S b)=S (a++b)
 simp [Str.append,S]
theorem U7 {a b:List Nat} (h:S a=S b):a=b:=by
 have:=congrArg (λx:Str=>x.cps.toList) h;simpa [WD] using this
theorem CG (c:Nat):(⟨#[c]⟩:Str)=S [c]:=rfl
theorem Sy (l:List Nat) (i j:Nat):VB (S l) (some (i:Int)) (some (j:Int))=S ((l.drop i).take (j - i)):=by
 unfold VB;rw [WD,Xu,HT.gq,HT.gq]
 show S _=S _
 congr 1
 by_cases h:i<=l.length
 ·rw [ij h]
  by_cases h2:j<=l.length
  ·rw [ij h2]
  ·rw [Nat.min_eq_right (by omega)]
   rw [af (by simp),af (by simp;omega)]
 ·have e:min i l.length=l.length:=Nat.min_eq_right (by omega)
  rw [e,bt (Κ l.length),bt (show l.length<=i by omega)];simp
def tX (s:List Nat):List (List Nat)->List Nat
 | []=>[]
 | [x]=>x
 | x::y::r=>x++s++tX s (y::r)
theorem SJ (s:List Nat):∀ ys:List (List Nat),Txt.join (S s) (ys.map S)=S (tX s ys):=λys=>by
 have e:Txt.join (S s) (ys.map S)=Str.join (S s) (ys.map S):=eq_of_beq (join_plain_closes _ _);rw [e]
 induction ys with
 | nil=>rfl
 | cons x r ih =>
  cases r with
  | nil=>rfl
  | cons y r =>
   have ih':=ih (eq_of_beq (join_plain_closes _ _))
   show S x++S s++Str.join (S s) ((y::r).map S)=_
   rw [ih',tW,tW];rfl
section
variable {K:Ι} {h:Heap} {mg:Str->Option Α} {P:ζ} {w:ν} {base:Heap} {f C:Addr} {x qual m:Str} {st:Stmt} {ps:List Str} {oc kV dc pm cd ct:Α} {od an:Option Addr} {sl:Array (Option Α)}
theorem Xa (X:K.In h) (G:h.Ns aE mg) (ps:List Str)
  (a:PySem.W.nsIn K aE x=some (some (.ref f))) (l:K.lookup f=some ⟨oc,od,.func (dv x x (Y5 st) (YZ st) (Yk st) .none kV dc pm an cd ct),sl⟩) (c:iq K cd x=true) (k:ff K (.ref f)=true)
  (b:∀ (kV doc pm:Α) (an:Option Addr) (cdv ct:Α) (us:List Α),us.length=ps.length->gS (dv x x (Y5 st) (YZ st) (Yk st) .none kV doc pm an cdv ct) ⟨us,[]⟩=pure (ps.zip us)) :
  ∀ P w base,(Gx.mk P w K mg base).Raw x x st ps:=λP w base =>
 have F:=V0 (st:=st) l c k
 ⟨f,_,F,F.binds b,PySem.W.mg_of X G a⟩
theorem XM (X:K.In h) (G:h.Ns aE mg) (ps:List Str)
  (a:PySem.W.findIn K (.ref C) m=some (some (.ref f))) (i:PySem.W.isFn K (.ref f)=true) (l:K.lookup f=some ⟨oc,od,.func (dv m qual (Y5 st) (YZ st) (Yk st) .none kV dc pm an cd ct),sl⟩) (c:iq K cd qual=true) (k:ff K (.ref f)=true)
  (b:∀ (kV doc pm:Α) (an:Option Addr) (cdv ct:Α) (us:List Α),us.length=ps.length->gS (dv m qual (Y5 st) (YZ st) (Yk st) .none kV doc pm an cdv ct) ⟨us,[]⟩=pure (ps.zip us)) :
  ∀ P w base,(Gx.mk P w K mg base).aD C m qual st ps:=λP w base =>
 have F:=V0 (st:=st) l c k
 ⟨f,_,F,F.binds b,⟨a,i,k⟩⟩
theorem XY (X:K.In h) (G:h.Ns aE mg) (ps:List Str) (aC:PySem.W.nsIn K aE x=some (some (.ref C))) (mk:PySem.W.makesIn K C=true) (kc:ff K (.ref C)=true)
  (a:PySem.W.findIn K (.ref C) "__init__"=some (some (.ref f))) (i:PySem.W.isFn K (.ref f)=true) (l:K.lookup f=some ⟨oc,od,.func (dv "__init__" qual (Y5 st) (YZ st) (Yk st) .none kV dc pm an cd ct),sl⟩) (c:iq K cd qual=true) (k:ff K (.ref f)=true)
  (b:∀ (kV doc pm:Α) (an:Option Addr) (cdv ct:Α) (us:List Α),us.length=ps.length->gS (dv "__init__" qual (Y5 st) (YZ st) (Yk st) .none kV doc pm an cdv ct) ⟨us,[]⟩=pure (ps.zip us)) :
  ∀ P w base,(Gx.mk P w K mg base).bB x C qual st ps:=λP w base =>
 have F:=V0 (st:=st) l c k
 ⟨f,_,F,F.binds b,⟨mk,a,i,kc⟩,PySem.W.mg_of X G aC⟩
end
def U8 (K:Ι):Sp:=λvs H Q _=>∃ (a:Addr) (ns:List Int),vs=[.ref a]/\ao K H a (ns.map V.int)/\ns.length<=63/\∀ H',Q (.bl true) H'
def Fw (K:Ι) (mg:Str->Option Α) (st:Stmt) (x n:Str):Prop:=∃ f fd,gK K n n st f fd/\(∀ (s:Δ) (u:Α),BindsTo s fd ⟨[u],[]⟩ [(x,u)])/\mg n=some (.ref f)
theorem SM {K:Ι} {h:Heap} {mg:Str->Option Α} {f:Addr} {x n:Str} {st:Stmt} {oc kV dc pm cd ct:Α} {od an:Option Addr} {sl:Array (Option Α)} (X:K.In h) (G:h.Ns aE mg)
  (a:W.nsIn K aE n=some (some (.ref f))) (l:K.lookup f=some ⟨oc,od,.func (dv n n (Y5 st) (YZ st) (Yk st) .none kV dc pm an cd ct),sl⟩) (c:iq K cd n=true) (k:ff K (.ref f)=true)
  (b:∀ (kV doc pm:Α) (an:Option Addr) (cdv ct:Α) (s:Δ) (u:Α),BindsTo s (dv n n (Y5 st) (YZ st) (Yk st) .none kV doc pm an cdv ct) ⟨[u],[]⟩ [(x,u)]):Fw K mg st x n :=
 ⟨f,_,V0 (st:=st) l c k,b kV dc pm an cd ct,W.mg_of X G a⟩
theorem SN {l:PySem.W.OpenLaw} {q:ζ} {loose:List Str} {XP:(Str->Option Α)->Heap->Prop} {YP:ν->Heap->Prop} {d:DefRec} {K:Params->Ι} (k:Nat) (x:Str) (st:Stmt) (N:List Str) (hn:l.most=some 63) (hdf:d.params.defaults=[]) (hk:aQ (k+1) io) (S:ak N [x] (Yk st))
  (hY:∀ (w:ν) (h:Heap),YP w h->(K w.params).In h)
  (F:∀ (w:ν) (mg:Str->Option Α) (h:Heap),(K w.params).In h->h.Ns aE mg->Fw (K w.params) mg st x d.name/\∀ base,V2 (Gx.mk l.prog w (K w.params) mg base) k N d.name st (U8 (K w.params))) :
  PySem.W.WalkO q loose XP YP l.row.toRowW d [] (λf vs=>PySem.call f vs):=by
 refine L2.RQ (n:=63) (k:=k+1) (x:=x) (CX:=λ_=>fY) (sp:=λw=>U8 (K w.params)) hn (by decide) hdf hk hY (λw mg fa h KX G hmg=>?_) (λ_ _ a ns hl _ hS=>⟨a,ns,rfl,hS,hl,λ_=>rfl⟩) λ_ _ _ _ _ z=>z
 obtain ⟨⟨f,fd,Fu,hb,hm⟩,B⟩:=F w mg h KX G;have e:=hmg.symm.trans hm
 cases e
 exact ⟨fd,hb,λbase _ _=>Fu.ok S (λvs H Q E h=>by obtain ⟨a,ns,rfl,_⟩:=h;rfl) λcdv A outer s H vs Q E hr h=>B base fa cdv A outer s H vs Q E hr h⟩
section
variable {X:Cx}
theorem Fx {a:Int} {m:Nat} (h:a.natAbs<2^m):Builtin.Int.intBits a<=m:=by
 unfold Builtin.Int.intBits
 split
 ·omega
 ·rename_i h0
  have h0:a.natAbs≠0:=by simpa using h0
  have:=(Nat.log2_lt h0).mpr h;omega
def tY (i j:Int):Prop:=∃ m n:Nat,i.natAbs<2^m/\j.natAbs<2^n/\m+n<=100000000
theorem tY.ok {i j:Int} (h:tY i j):IntMulOk i j:=by
 obtain ⟨m,n,h1,h2,h3⟩:=h;exact IntMulOk.of_le (Fx h1) (Fx h2) (by omega)
def wO (i j:Int):Prop:=0<j/\j.natAbs<2^9000
theorem Y1:bG X (cw .FloorDiv) (rI wO λi j => .int (i / j)):=lJ λi j _ _ _ _ _ hc q=>by
 have h1:(0:Int)<j:=hc.1;have h2:=hc.2;have h3:j.natAbs≠0:=by omega
 exact floordiv_int (by omega) (by rw [Int.fdiv_eq_ediv_of_nonneg i (by omega)];exact q) (.inl (PyProof.noPylong_of_log2 ((Nat.log2_lt h3).mpr h2)))
theorem YS {j:Int} (h:0<j) (h2:j<1073741824) {i:Int}:wO i j:=⟨h,τ (show j.natAbs<2^30 by omega) (em (by decide) (by decide))⟩
end
theorem Fy {CX:dU} {P:ζ} {w:ν} {K:Ι} {mg:Str->Option Α} {base:Heap} {N:List Str} {qual:Str} {scope:db} {f:Addr} {cd:Α} {A:ag} {outer:List Env} {s:Δ} {H:Hp} {E:XK} :
  (VX CX P w K mg base N qual scope f cd A outer s H E).K=K:=rfl
theorem Fz {X:Cx}:X.jL.K=X.K:=rfl
section
variable {g:TG} {tb:TS} {D:Ends} {σ:St} {H:Hp}
theorem XN {ta:TA} {n:Nat} (Pv:Nat->St->Hp->Prop) (ha:∀ R:List V->Hp->Prop,R [.int n] H->ta σ H R) (hn:n<2^62) (h0:Pv 0 σ H)
  (hs:∀ i σ H,i<n->Pv i σ H->g (.int i) σ H λσ2 H2=>tb { D with nx:=Pv (i+1),ct:=Pv (i+1),bk:=D.nx } σ2 H2) (hd:∀ σ H,Pv n σ H->D.nx σ H):WJ (Uk ta) g tb D σ H:=by
 refine ha _ ⟨n,rfl,by omega,by omega,?_⟩;refine Pj (lo:=0) (n:=n) Pv h0 (λi σ H hi p=>?_) hd;have e:(0:Int)+i=i:=by omega
 rw [e];exact hs i σ H hi p
theorem QY {K:Ι} {tl:TE} {a:Addr} {xs:List V} (Pv:Nat->St->Hp->Prop) (ha:∀ R:V->Hp->Prop,R (.ref a) H->tl σ H R) (h0:Pv 0 σ H) (hl:∀ i σ H,i<=xs.length->Pv i σ H->ao K H a xs)
  (hs:∀ i x σ H,xs[i]?=some x->Pv i σ H->g x σ H λσ2 H2=>tb { D with nx:=Pv (i+1),ct:=Pv (i+1),bk:=D.nx } σ2 H2) (hd:∀ σ H,Pv xs.length σ H->D.nx σ H):WJ (Wb K tl) g tb D σ H:=by
 refine ha _ ⟨a,rfl,⟨xs,hl 0 σ H (ι _) h0⟩,?_⟩;exact UD Pv h0 hl hs hd
end
section
variable {X:Cx}
theorem SQ (hc:X.calm=true:=by rfl):XI X (.builtin "sum") (λxs H Q=>∃ (p:Addr) (ns:List Int),xs=[.ref p]/\ao X.K H p (ns.map V.int)/\Q (.int ns.sum) H):=by
 intro pins s σ H xs us Q I r h;obtain ⟨p,ns,rfl,hq,q⟩:=h;obtain ⟨u,rfl,rx⟩:=Wx r
 cases rx
 obtain ⟨its,r',pl,hz⟩:=I.list hq;have hi:=Rq r';have hl:=pl.isList;obtain ⟨xs,ex⟩:=hi.allInts.items;rw [ex] at hl
 have e:preSum (numAt xs) xs.size=ns.sum:=by
  have h1:=nums_intItems (xs:=xs);rw [<- ex] at h1
  have h2:=hi.numsOf;rw [preSum_eq,af (by simp)];rw [<- h1];exact congrArg List.sum h2
 refine sum_intListG (I.ok.hd hc) hl λh' tk t' hk=>?_
 rw [e];exact ⟨.int _,H,I.kept (t':=tk) hk,⟨t',rfl⟩,q⟩
end
def Ite (G:Hp->List V->Prop):It :=
 ⟨λi H=>∃ xs x,G H xs/\xs[i]?=some x,λi H v H'=>∃ T,v = .ref T/\H T=none/\∀ xs x,G H xs->xs[i]?=some x->H'=upd H T (.tup [.int i,x]),λi H=>∃ xs,G H xs/\xs.length<=i⟩
theorem SX {P:ζ} {w:ν} {K:Ι} {elts:List Expr} {kk:Nat} {pos:Pos} {a e it:Addr} (ne:e≠it) (na:a≠e/\a≠it) :
  Turn P w K (.Tuple elts kk pos) (Ite λH xs=>ao K H a xs) [e,it] e (λi h=>(∃ old,IsEnum h e it i old)/\h.IsListIter it a i) where
 mem:=by simp
 obj:=λi h ⟨⟨old,he⟩,hi⟩ c hc=>by
  simp only [Φ,ac,or_false] at hc;rcases hc with rfl | rfl
  ·exact ⟨_,he,λv z=>by cases z⟩
  ·obtain ⟨o,q,_,d⟩:=hi
   exact ⟨o,q,λv z=>by rw [d] at z;cases z⟩
 keep:=λi h h' ⟨⟨old,he⟩,hi⟩ q=>⟨⟨old,q e (by simp) _ he⟩,hi.at λo z=>q it (by simp) o z⟩
 item:=by
  intro X hP hw hK hc i pins s σ H E I hf ⟨⟨old,he⟩,hi⟩ hg;subst hP hw hK;obtain ⟨xs,x,g1,hx⟩:=hg;obtain ⟨its,rv,pl,hz⟩:=I.list g1;obtain ⟨u,hu,ru⟩:=rv.get hx;refine wpAny_pyNext_enum_item he hi pl.isList (x:=u) (by simpa using hu) ne λh1 ho hi1 hT hsz kp=>?_
  refine ⟨_,rfl,?_⟩;refine wpAny_letOwnedTupleGo_enum (s:={ s with heap:=h1,toks:=s.toks+1 }) ho λh2 he2 sb=>?_
  have elt:e<s.heap.objs.size:=Ψ he;have S5:∀ c o,c∉[e,it]->s.heap.get? c=some o->h2.get? c=some o:=λc o hm z=>by
   have c1:c≠e:=λq=>hm (by simp [q])
   have c2:c≠it:=λq=>hm (by simp [q])
   exact sb.extBut c o c1 (kp c o c1 c2 z)
  have hT2:h2.get? s.heap.objs.size=some { cls := .type "tuple",data := .seq #[.int i s.toks,u] }:=sb.extBut _ _ (Nat.ne_of_gt elt) hT;have I':=I.u9 (t':=s.toks+1) (h':=h2) (T:=s.heap.objs.size) (vs:=[.int i,x]) S5 hf (Κ _) (show YV X.prog X.w _ h2 _ (.tup [.int i,x]) from ⟨by show 2<=sizeLine;decide,[.int i s.toks,u],.cons ⟨_,rfl⟩ (.cons ru .nil),_,hT2,rfl,_,rfl⟩);have fresh:H s.heap.objs.size=none:=I.hok.fresh (Κ _);refine ⟨.ref s.heap.objs.size,_,I',rfl,⟨_,rfl,fresh,λxs' x' S6 hx'=>?_⟩,⟨⟨_,by simpa using he2⟩,hi1.at λo z=>sb.extBut _ _ (am ne) z⟩,λc hm=>?_⟩
  ·rw [I.jK S6 g1,hx] at hx'
   cases hx'
   rfl
  ·have h0:=(hf c hm).1
   have S7:c<s.heap.objs.size:=by
    simp only [Φ,ac,or_false] at hm;rcases hm with rfl | rfl
    ·exact elt
    ·obtain ⟨o,q,_⟩:=hi;exact Ψ q
   rw [Yh (ς S7)];exact h0
 done:=by
  intro X hP hw hK hc i pins s σ H E I hf ⟨⟨old,he⟩,hi⟩ hg;subst hP hw hK;obtain ⟨xs,g1,hx⟩:=hg;obtain ⟨its,rv,pl,hz⟩:=I.list g1;have hl:=rv.length;obtain ⟨f0,f1,f2,f3,f4,f5⟩:=hf it (by simp);exact wpAny_pyNext_enum_end (I.ok.hd hc) he hi pl.isList (by simp;omega) λh' eb=>⟨rfl,I.turned (t':=s.toks) (λb o hb z=>eb b o hb z) f0 f1 f3 f4 f5⟩
 self:=λ_ _ _ _ _ ⟨⟨_,he⟩,_⟩ h=>wpAny_pyIter_enum he h
section
variable {X:Cx} {elts:List Expr} {kk:Nat} {tpos:Pos}
def FJ (K:Ι) (ta:TA):TI:=λσ H R=>ta σ H λvs H1=>∃ a xs,vs=[.ref a]/\ao K H1 a xs/\R (Ite λH xs=>ao K H a xs) H1
theorem S8 {a:Expr} {ta:TA} {p pos:Pos} (hg:Gl X "enumerate") (hm:X.mg "enumerate"=none) (ha:PA X [a] ta) (hs:θ [a] X.env=[(false,eval a X.env)]) :
  PI X (.Tuple elts kk tpos) (.Call (.Name "enumerate" p) [a] [] pos) (FJ X.K ta):=by
 intro pins s σ H R I h;refine Call_ (WV I hg hm boot_enumerate (b8 (aA (ha pos pins s σ H _ I h) λus s1 ⟨vs,H1,I1,r1,q1⟩=>?_) hs rfl));obtain ⟨x,xs,e,hx,q⟩:=q1;subst e;obtain ⟨u,rfl,ru⟩:=Wx r1
 cases ru
 obtain ⟨i1,_,pl,_⟩:=I1.list hx;have l1:x<s1.heap.objs.size:=by obtain ⟨_,e,_⟩:=pl.isList;exact Ψ e
 refine call_enumerate_list pl.isList λh' he hi hsz keep=>?_
 refine wpAny_pyIter_enum he ?_;have I2:Inv X pins σ H1 { s1 with heap:=h' }:=I1.kept (t':=s1.toks) keep;have l1':@LT.lt Nat _ x s1.heap.objs.size:=l1;refine ⟨_,[s1.heap.objs.size+1,s1.heap.objs.size],_,_,H1,rfl,I2,SX (by intro z;have z':@Eq Nat _ _:=z;omega) ⟨by intro z;have z':@Eq Nat _ _:=z;omega,by intro z;have z':@Eq Nat _ _:=z;omega⟩,⟨⟨_,he⟩,hi⟩,λc hc=>?_,q⟩;have hle:s1.heap.objs.size<=c:=by
  simp only [Φ,ac,or_false] at hc;rcases hc with e | e<;>(have e':@Eq Nat _ _:=e;show @LE.le Nat _ s1.heap.objs.size c;omega)
 exact I1.gZ hle (I1.hok.fresh hle)
end
mutual
inductive Den (K:Ι) (H:Hp):V->Ζ->Prop
 | non:Den K H .non .none
 | bl (b:Bool):Den K H (.bl b) (.bool b)
 | int (i:Int):Den K H (.int i) (.int i)
 | str (x:Str) (h:bc x=true):Den K H (.str x) (.str x)
 | lst {a:Addr} {vs:List V} {ds:List Ζ}:ao K H a vs->bI K H vs ds->Den K H (.ref a) (.list ds)
 | tup {a:Addr} {vs:List V} {ds:List Ζ}:aH K H a vs->bI K H vs ds->Den K H (.ref a) (.tuple ds)
inductive bI (K:Ι) (H:Hp):List V->List Ζ->Prop
 | nil:bI K H [] []
 | cons {v:V} {d:Ζ} {vs:List V} {ds:List Ζ}:Den K H v d->bI K H vs ds->bI K H (v::vs) (d::ds)
end
mutual
theorem Den.keep {K:Ι} {H H':Hp} (e:Yj H H'):∀ {v:V} {d:Ζ},Den K H v d->Den K H' v d
 | _,_,.non => .non
 | _,_,.bl b => .bl b
 | _,_,.int i => .int i
 | _,_,.str x h => .str x h
 | _,_,.lst h hs => .lst (e.seq h) (hs.keep e)
 | _,_,.tup h hs => .tup (e.tup h) (hs.keep e)
theorem bI.keep {K:Ι} {H H':Hp} (e:Yj H H'):∀ {vs:List V} {ds:List Ζ},bI K H vs ds->bI K H' vs ds
 | _,_,.nil => .nil
 | _,_,.cons h hs => .cons (h.keep e) (hs.keep e)
end
mutual
theorem Den.lay {K:Ι} {H:Hp}:∀ {v:V} {d:Ζ},Den K H v d->d.canLay0=true
 | _,_,.non=>rfl
 | _,_,.bl b=>rfl
 | _,_,.int i=>rfl
 | _,_,.str x h=>by simpa [eB] using h
 | _,_,.lst _ hs=>by rw [eB];exact hs.lay
 | _,_,.tup _ hs=>by rw [eB];exact hs.lay
theorem bI.lay {K:Ι} {H:Hp}:∀ {vs:List V} {ds:List Ζ},bI K H vs ds->ei ds=true
 | _,_,.nil=>rfl
 | _,_,.cons h hs=>by rw [ei,h.lay,hs.lay];rfl
end
section
variable {X:Cx}
mutual
theorem Den.reads {pins:List (Addr×Obj)} {σ:St} {H:Hp} {s:Δ} (I:Inv X pins σ H s):∀ {v:V} {d:Ζ} {u:Α},Den X.K H v d->YD v u->∃ as,Reads s.heap u d as
 | _,_,u,.non,r=>by cases (show u = .none from r);exact ⟨_,.none⟩
 | _,_,u,.bl b,r=>by cases (show u = .bool b from r);exact ⟨_,.bool b⟩
 | _,_,u,.int i,r=>by obtain ⟨t,rfl⟩:=r;exact ⟨_,.int i t⟩
 | _,_,u,.str x h,r=>by obtain ⟨t,rfl⟩:=r;exact ⟨_,.str x t⟩
 | _,_,u,.lst (a:=a) h hs,r=>by
  cases (show u = .ref a from r)
  obtain ⟨its,rv,pl,hz⟩:=I.list h;obtain ⟨as,ra⟩:=hs.reads I rv;obtain ⟨o,e1,e2,n,e3⟩:=pl.isList;exact ⟨_,.list e1 e2 e3 (by simpa using ra)⟩
 | _,_,u,.tup (a:=a) h hs,r=>by
  cases (show u = .ref a from r)
  obtain ⟨its,rv,pl,hz⟩:=I.tuple h;obtain ⟨as,ra⟩:=hs.reads I rv;obtain ⟨o,e1,e2,n,e3⟩:=(show s.heap.IsTuple a its.toArray from pl);exact ⟨_,.tuple e1 e2 e3 (by simpa using ra)⟩
theorem bI.reads {pins:List (Addr×Obj)} {σ:St} {H:Hp} {s:Δ} (I:Inv X pins σ H s):∀ {vs:List V} {ds:List Ζ} {us:List Α},bI X.K H vs ds->Yt vs us->∃ as,ReadsAll s.heap us ds as
 | _,_,us,.nil,r=>by cases r;exact ⟨_,.nil⟩
 | _,_,us,.cons h hs,r=>by
  cases r with
  | cons r rr =>
   obtain ⟨as,ra⟩:=h.reads I r;obtain ⟨bs,rb⟩:=hs.reads I rr;exact ⟨_,.cons ra rb⟩
end
theorem wQ (hu:X.A.units+64<gc):bG X (da .Eq) (λx y H Q=>∃ d e,Den X.K H x d/\Den X.K H y e/\d.depth<=64/\Q (.bl (cz d e)) H):=by
 intro pins s σ H x y v u Q I rx ry h;obtain ⟨d,e,hd,he,dp,q⟩:=h;obtain ⟨as,ra⟩:=hd.reads I rx;obtain ⟨bs,rb⟩:=he.reads I ry;exact SeqAt.rcAt_reads ra rb hd.lay he.lay (by omega) _ _ _ _ ⟨.bl _,H,I,rfl,q⟩
theorem S9 (hu:X.A.units+64<gc):bG X (da .NotEq) (λx y H Q=>∃ d e,Den X.K H x d/\Den X.K H y e/\d.depth<=64/\Q (.bl (!PyData.eqv d e)) H):=by
 intro pins s σ H x y v u Q I rx ry h;obtain ⟨d,e,hd,he,dp,q⟩:=h;obtain ⟨as,ra⟩:=hd.reads I rx;obtain ⟨bs,rb⟩:=he.reads I ry;exact SeqAt.compareNe_reads ra rb hd.lay he.lay (by omega) ⟨.bl _,H,I,rfl,q⟩
end
theorem Y4 {α:Type} {l:List α} {i:Nat} {x:α} (h:l[i]?=some x):l.take (i+1)=l.take i++[x]:=by
 obtain ⟨hi,hc⟩:=Η.mp h;rw [List.take_succ_eq_append_getElem hi,hc]
theorem U9 {J:It} {P:Hp->Prop} {xs:List V} (hJ:Wd J P xs) {src:List (Option Nat)} {te:TE} {σ:St} {H1:Hp} {Q:VK} {D:Addr} (ys:List V) (hP:∀ H',Yj H1 H'->P H') (hD:H1 D=none) (hl:ys.length=xs.length) (hlen:xs.length<=100000)
  (step:∀ (i:Nat) x y H',xs[i]?=some x->ys[i]?=some y->Yj H1 H'->∀ R:VK,(∀ aM,Yj H' aM->R y aM)->te (some x::YB src σ) H' R)
  (fin:∀ H',Yj H1 H'->H' D=some (.lst ys)->Q (.ref D) H'):LC (none::src) J (Yy 0) XO te σ H1 Q D:=by
 have h6:100000<sizeLine:=by decide
 refine W9 hJ (λi zs σ' H'=>zs=ys.take i/\(∃ o,σ'=o::YB src σ)/\Yj H1 H'/\H' D=some (.lst zs)) ⟨by simp,⟨none,rfl⟩,.aj hD _,Yc⟩ (λi zs σ' H' p=>⟨hP _ p.2.2.1,p.2.2.2⟩) (XX 0) ?_ ?_
 ·rintro i zs σ' H' x hx ⟨rfl,⟨o,rfl⟩,sm,hd⟩
  have hi:=(Η.mp hx).1;have hy:ys[i]?=some (ys[i]'(by omega)):=Ε _
  show te (some x::YB src σ) H' _
  refine step i x _ H' hx hy sm _ λaM s2=>⟨s2 _ _ hd,?_,(Y4 hy).symm,⟨_,rfl⟩,.bV hD (sm.trans s2) _,Yc⟩
  rw [ay];omega
 ·rintro zs σ' H' ⟨rfl,_,sm,hd⟩
  rw [<- hl,di] at hd
  exact fin H' sm hd
theorem UB (K:Ι) (i j:Nat):∀ x σ H Q Q',(∀ σ' H',Q σ' H'->Q' σ' H')->Vf K 2 (XB (Yy i) (XB (Yy j) Vv)) x σ H Q->Vf K 2 (XB (Yy i) (XB (Yy j) Vv)) x σ H Q':=by
 rintro x σ H Q Q' h ⟨a,xs,e,sq,l,v,r,e1,v2,r2,e2,e3,q⟩;exact ⟨a,xs,e,sq,l,v,r,e1,v2,r2,e2,e3,h _ _ q⟩
end L2
namespace L2
open PySem PySem.Spec PyProof.Rows
section
variable {a b c d e r:TS} {D:Ends} {σ:St} {H:Hp} (M:St->Hp->Prop) (h1:∀ σ H,M σ H->r D σ H)
include h1
theorem wR (h2:∀ N:St->Hp->Prop,(∀ σ H,M σ H->N σ H)->a { D with nx:=N } σ H):XS a r D σ H:=h2 (r D) h1
theorem rP (h2:∀ N:St->Hp->Prop,(∀ σ H,M σ H->N σ H)->XS a b { D with nx:=N } σ H):XS a (XS b r) D σ H:=h2 (r D) h1
theorem Nu (h2:∀ N:St->Hp->Prop,(∀ σ H,M σ H->N σ H)->XS a (XS b (XS c (XS d e))) { D with nx:=N } σ H):XS a (XS b (XS c (XS d (XS e r)))) D σ H:=h2 (r D) h1
end
theorem Tc (i j:Int):Qp (.int i) (.int j)=true:=rfl
theorem YA (i j:Str):Qp (.str i) (.str j)=true:=rfl
theorem Td (xs:List V) (i:Nat):UF xs (some (i:Int)) none=xs.drop i:=by
 unfold UF;rw [HT.gq,HT.rG];by_cases hi:i<=xs.length
 ·rw [ij hi,af (by rw [gV];omega)]
 ·rw [List.drop_of_length_le (by omega),List.drop_of_length_le (show xs.length<=i by omega)]
  simp
theorem X4 {α:Type} {c:TT} {tb:TS} {D:Ends} {σ:St} {H:Hp} (Pv:α->St->Hp->Prop) (cond:α->Bool) (μ:α->Nat) (a₀:α) (h0:Pv a₀ σ H)
  (hc:∀ a σ H,Pv a σ H->∀ R:Bool->Hp->Prop,(∀ H',Pv a σ H'->R (cond a) H')->c σ H R)
  (hb:∀ a σ H,Pv a σ H->cond a=true->tb { D with nx:=λσ' H'=>∃ a',Pv a' σ' H'/\μ a'<μ a,ct:=λσ' H'=>∃ a',Pv a' σ' H'/\μ a'<μ a,bk:=D.nx } σ H)
  (hd:∀ a σ H,Pv a σ H->cond a=false->D.nx σ H):DP c tb D σ H:=by
 refine ⟨λm σ H=>∃ a,m=μ a/\Pv a σ H,⟨_,a₀,rfl,h0⟩,?_⟩;rintro m σ H ⟨a,rfl,p⟩;refine hc a σ H p _ λH' p'=>?_
 cases e:cond a with
 | true=>exact ⟨_,λσ' H' ⟨a',q,l⟩=>⟨_,l,a',rfl,q⟩,hb a σ H' p' e⟩
 | false=>exact hd a σ H' p' e
section
variable {X:Cx} {tg:Expr}
def wU (hi:Int) (n:Nat):It:=⟨λi _=>i<n,λi H x H'=>H'=H/\x = .int (hi - i),λi _=>n<=i⟩
theorem Te {P:ζ} {w:ν} {K:Ι} {tg:Expr} (it:Addr) (hi:Int) (n:Nat):Turn P w K tg (wU hi n) [it] it (λi h=>IsRangeIter h it (hi+(i:Nat)*(-1)) ((n:Int) - (i:Nat)) (-1)) where
 mem:=by simp
 obj:=λi h st b hb=>by
  have e:b=it:=by simpa using hb
  subst e;exact ⟨_,st,λv z=>by
   have z':Data.fields _=Data.cell v:=z
   cases z'⟩
 keep:=λi h h' st k=>k it (by simp) _ st
 item:=by
  intro X hP hw hK hc i pins s σ H E I hf st hg;subst hP hw hK;obtain ⟨f0,f1,f2,f3,f4,f5⟩:=hf it (by simp);have W:=Walks.range (prog:=X.prog) (w:=X.w) (I.ok.hd hc) it hi (-1) n;refine W.item i s _ _ hg st λv h' tk hv st' kk=>?_
  obtain ⟨t,rfl⟩:=hv;have I1:Inv X pins σ H { s with heap:=h',toks:=tk }:=I.turned (λb o hb e=>kk b o (by simpa using hb) e) f0 f1 f3 f4 f5;refine ⟨_,rfl,UT (s:={ s with heap:=h',toks:=tk }) (n:="range_iterator") st' rfl rfl (by decide) ⟨.int (hi - i),H,I1,⟨t,?_⟩,⟨rfl,rfl⟩,st',λb hb=>(hf b hb).1⟩⟩;have:hi+(i:Int) * -1=hi - i:=by omega
  rw [this]
 done:=by
  intro X hP hw hK hc i pins s σ H E I hf st hg;subst hP hw hK;obtain ⟨f0,f1,f2,f3,f4,f5⟩:=hf it (by simp);exact wpAny_pyNext_range_end (I.ok.hd hc) st (by have:n<=i:=hg;omega) λh' eb=>⟨rfl,I.turned (t':=s.toks) (λb o hb e=>eb b o hb e) f0 f1 f3 f4 f5⟩
 self:=λ_ _ _ _ _ st h=>wpAny_pyIter_rangeiter st h
theorem Tf {a b:Int} (ha : -(2^62)<=a) (ha':a<2^62) (hb : -(2^62)<=b) (hb':b<2^62):Builtin.Range.small a b (-1)=true:=by
 have e:df a b (-1)=if a>b then a - b else 0:=by unfold df;simp
 unfold Builtin.Range.small;rw [e];simp only [Builtin.Range.rangeFitsLong,eJ,Bool.or_eq_true,decide_eq_true_eq,beq_iff_eq,show ¬ ((-1:Int)>0) by decide,if_false]
 split<;>omega
theorem Tg {pins:List (Addr×Obj)} {σ:St} {H:Hp} {s:Δ} {R:It->Hp->Prop} {E:Α->Δ->Prop} {lo hi:Int} {t u v:Tok} {tk:Nat} (I:Inv X pins σ H s) (h1 : -(2^62)<=lo) (h2:lo<2^62) (h3 : -(2^62)<=hi) (h4:hi<2^62)
  (q:R (wU lo (lo - hi).toNat) H):Χ (Ω X.prog X.w) X.A (pyIter (.ref s.heap.objs.size)) (PIE X pins σ tg R) E { s with heap:=s.heap.push { cls := .type "range",data := .fields #[.int lo t,.int hi u,.int (-1) v] },toks:=tk }:=by
 refine wpAny_pyIter_range (IsRange.new ..) (Tf h1 h2 h3 h4) ?_;have I1:Inv X pins σ H { s with heap:=s.heap.push { cls := .type "range",data := .fields #[.int lo t,.int hi u,.int (-1) v] },toks:=tk }:=I.kept λb o e=>Ρ _ e
 refine ⟨(s.heap.push { cls := .type "range",data := .fields #[.int lo t,.int hi u,.int (-1) v] }).objs.size,[(s.heap.push { cls := .type "range",data := .fields #[.int lo t,.int hi u,.int (-1) v] }).objs.size],_,_,H,rfl,
  I1.kept (t':=tk) λb o e=>Ρ _ e,Te _ lo (lo - hi).toNat,?_,λb hb=>?_,q⟩
 ·have e1:lo+((0:Nat):Int)*(-1)=lo:=by simp
  have e2:(((lo - hi).toNat:Nat):Int) - ((0:Nat):Int)=df lo hi (-1):=by unfold df;simp;split<;>omega
  show IsRangeIter _ _ (lo+((0:Nat):Int)*(-1)) ((((lo - hi).toNat:Nat):Int) - ((0:Nat):Int)) (-1)
  rw [e1,e2];exact ah _ rfl
 ·have e:b=(s.heap.push { cls := .type "range",data := .fields #[.int lo t,.int hi u,.int (-1) v] }).objs.size:=by simpa using hb
  subst e;exact I1.gZ (Κ _) (I1.hok.fresh (Κ _))
def FN (ta:TA):TI:=λσ H R=>ta σ H λvs H1=>∃ i j:Int,vs=[.int i,.int j,.int (-1)]/\(-(2^62)<=i/\i<2^62 /\ -(2^62)<=j/\j<2^62)/\R (wU i (i - j).toNat) H1
theorem Ti {a b c:Expr} {ta:TA} {p pos:Pos} (hg:Gl X "range") (hm:X.mg "range"=none) (ha:PA X [a,b,c] ta) (hs:θ [a,b,c] X.env=[(false,eval a X.env),(false,eval b X.env),(false,eval c X.env)]) (hs2:θ [b,c] X.env=[(false,eval b X.env),(false,eval c X.env)]) :
  PI X tg (.Call (.Name "range" p) [a,b,c] [] pos) (FN ta):=by
 intro pins s σ H R I h;refine Call_ (WV I hg hm boot_range (b8 (aA (ha pos pins s σ H _ I h) λus s1 ⟨vs,H1,I1,r1,q1⟩=>?_) (by rw [hs,hs2]) (by rw [hs2];rfl)));obtain ⟨i,j,e,⟨q1,q2,q3,q4⟩,q⟩:=q1;subst e
 cases r1 with
 | cons r rr =>
  cases rr with
  | cons r' rr =>
   cases rr with
   | cons r'' rr =>
    cases rr
    obtain ⟨t,rfl⟩:=r;obtain ⟨t',rfl⟩:=r';obtain ⟨t'',rfl⟩:=r'';exact call_range_3 (by decide) (Tg I1 q1 q2 q3 q4 q) (.inl (PyProof.noPylong_small (by decide)))
end
theorem Qa {g:TG} {tb:TS} {D:Ends} {σ:St} {H:Hp} {K:Ι} {tl:TE} {xs:List V} (Pv:Addr->Nat->St->Hp->Prop) (ha:∀ R:V->Hp->Prop,(∀ c H1,Pv c 0 σ H1->R (.ref c) H1)->tl σ H R) (hl:∀ c i σ H,i<=xs.length->Pv c i σ H->ao K H c xs)
  (hs:∀ c (i:Nat) x σ H,xs[i]?=some x->Pv c i σ H->g x σ H λσ2 H2=>tb { D with nx:=Pv c (i+1),ct:=Pv c (i+1),bk:=D.nx } σ2 H2) (hd:∀ c σ H,Pv c xs.length σ H->D.nx σ H):WJ (Wb K tl) g tb D σ H:=by
 refine ha _ λc H1 h0=>⟨c,rfl,⟨xs,hl c 0 σ H1 (ι _) h0⟩,?_⟩
 exact UD (Pv c) h0 (hl c) (hs c) (hd c)
section
variable {src:List (Option Nat)} {te:TE} {σ:St} {H:Hp} {Q:VK}
theorem Tj {ta:TA} {n:Nat} (ys:List V) (ha:∀ R:List V->Hp->Prop,R [.int n] H->ta σ H R) (hl:ys.length=n) (hlen:n<=100000)
  (step:∀ (i:Nat) y H',i<n->ys[i]?=some y->Yj H H'->∀ R:VK,(∀ aM,Yj H' aM->R y aM)->te (some (.int i)::YB src σ) H' R)
  (fin:∀ D H',H D=none->Yj H H'->H' D=some (.lst ys)->Q (.ref D) H'):c7 (none::src) (Uk ta) (Yy 0) XO te σ H Q:=by
 refine ha _ ⟨n,rfl,by omega,by omega,λD hD=>?_⟩;refine U9 (Wz (lo:=0) (n:=n) (P:=λ_=>True)) ys (λ_ _=>trivial) hD (by simpa using hl) (by simpa using hlen) (λi x y H' hx hy sm R r=>?_) λH'=>fin D H' hD
 have hi:i<n:=by have:=(Η.mp hx).1;simpa using this
 rw [Λ,aI hi] at hx
 have e:V.int (0+(i:Int))=x:=Γ hx;rw [i6] at e
 subst e;exact step i y H' hi hy sm R r
theorem V3 {K:Ι} {tl:TE} {xs:List V} (ys:List V) (ha:∀ R:V->Hp->Prop,(∀ a H1,Yj H H1->ao K H1 a xs->R (.ref a) H1)->tl σ H R) (hl:ys.length=xs.length) (hlen:xs.length<=100000)
  (step:∀ (i:Nat) x y H',xs[i]?=some x->ys[i]?=some y->Yj H H'->∀ R:VK,(∀ aM,Yj H' aM->R y aM)->te (some x::YB src σ) H' R)
  (fin:∀ D H',H D=none->Yj H H'->H' D=some (.lst ys)->Q (.ref D) H'):c7 (none::src) (Wb K tl) (Yy 0) XO te σ H Q :=
 ha _ λa H1 s1 hS=>⟨a,rfl,⟨xs,hS⟩,λD hD=>U9 (XW.imp λH' (e:Yj H1 H')=>e.seq hS) ys (λ_ e=>e) hD hl hlen (λi x y H' hx hy sm R r=>step i x y H' hx hy (s1.trans sm) R r) λH' sm=>fin D H' (s1.free hD) (s1.trans sm)⟩
end
section
variable {X:Cx} {K:Ι}
theorem FP (h:X.K=K:=by rfl):lM X (tL K):=by subst h;exact YQ
theorem Qw (h:X.K=K:=by rfl):lM X (tM K):=by subst h;exact YC
theorem VP (h:X.K=K:=by rfl):XI X (.builtin "len") (tO K):=by subst h;exact YL
end
theorem Tn (its:List Α):slicePick its.toArray none none (some (-1))=its.reverse.toArray:=by
 unfold slicePick;have hb:sliceBounds none none (some (-1)) its.toArray.size=((its.length:Int) - 1,-1,-1):=by simp [sliceBounds]
 rw [hb];have hr:iL ((its.length:Int) - 1) (-1) (-1)=(η its.length).map λ(k:Nat)=>its.length - 1 - k:=by
  unfold iL;simp only [show ¬ ((-1:Int)>0) by decide,if_false];have hc:(if (its.length:Int) - 1 > -1 then ((its.length:Int) - 1 - -1 - -1 - 1) / - -1 else 0).toNat=its.length:=by
   split
   ·have:((its.length:Int) - 1 - -1 - -1 - 1)=its.length:=by omega
    rw [this,show (- -1:Int)=1 from rfl,gg];omega
   ·omega
  rw [hc]
  apply a5
  intro k hk;have:k<its.length:=a7.mp hk;omega
 simp only [hr]
 congr 1
 rw [gs]
 apply List.ext_getElem?
 intro i;have key:∀ (n:Nat),n<=its.length->(List.filterMap ((λx=>its.toArray[x]?) ∘ λk=>its.length - 1 - k) (η n))=its.reverse.take n:=by
  intro n
  induction n with
  | zero=>intro _;simp
  | succ n ih =>
   intro hn;rw [cK,fv,ih (by omega)];have hx:its.reverse[n]?=some (its[its.length - 1 - n]'(by omega)):=by
    rw [List.getElem?_reverse (by omega)];exact Ε _
   rw [Y4 hx];have hlt:its.length - 1 - n<its.length:=by omega
   simp [hlt]
 rw [key its.length (Κ _)];rw [af (by simp)]
section
variable {X:Cx} {e st:Expr} {te ts:TE} {pos p2:Pos}
def wV (K:Ι) (te ts:TE):TE:=λσ H Q=>te σ H λx H1=>ts σ H1 λy H2=>y = .int (-1)/\∃ a xs,x = .ref a/\ao K H2 a xs/\∀ p,H2 p=none->Q (.ref p) (upd H2 p (.lst xs.reverse))
end
section
variable {X:Cx} {pos:Pos}
def FQ:V->List V->Hp->VK->Prop:=λx vs H Q=>∃ i,x = .int i/\vs=[]/\Q (.int (Builtin.Int.intBits i:Nat)) H
def FT:V->List V->Hp->VK->Prop:=λx vs H Q=>∃ (z y:Str),x = .str z/\vs=[.str y]/\Q (.int (Txt.find z y)) H
def FW:TE:=λ_ H Q=>∀ p,H p=none->Q (.ref p) (upd H p (.dK []))
end
def Gx.m7 (g:Gx) (x:Str) (xs:List V):Prop:=∃ c,g.mg x=some (.ref c)/\∀ H,aH g.K H c xs
theorem Tp {K:Ι} {h:Heap} {mg:Str->Option Α} {x:Str} {i:Addr} {dc:Option Addr} {its:Array Α} {n:Nat} {sl:Array (Option Α)} {xs:List V} (X:K.In h) (G:h.Ns aE mg)
  (a:W.nsIn K aE x=some (some (.ref i))) (l:K.lookup i=some ⟨.type "tuple",dc,.seq its n,sl⟩) (hz:its.size<=sizeLine) (r:Yt xs its.toList):∀ P w base,(Gx.mk P w K mg base).m7 x xs :=
 λP w base=>⟨i,W.mg_of X G a,λH => .inr ⟨_,its,n,l,rfl,rfl,hz,r⟩⟩
section
variable {X:Cx} {g:Gx} {x:Str} {pos:Pos}
def wW (K:Ι) (xs:List V):TE:=λ_ H Q=>∀ c,aH K H c xs->Q (.ref c) H
theorem CJ {xs:List V} (F:g.m7 x xs) (hX:X.gx=g) (hg:Gl X x) (hd:(x==("__debug__":Str))=false):PE X (.Name x pos) (wW g.K xs):=by
 subst hX;obtain ⟨c,e,hc⟩:=F;exact λpins s σ H Q I h=>Dw hg e (show YD (.ref c) (.ref c) from rfl) hd pins s σ H Q I (h c (hc H))
end
theorem Y6 {c A B:Prop} [Decidable c] (h:¬ c) (hb:B):if c then A else B:=by rw [if_neg h];exact hb
theorem We {c A B:Prop} [Decidable c] (h:c) (ha:A):if c then A else B:=by rw [if_pos h];exact ha
section
variable {src:List (Option Nat)} {te:TE} {σ:St} {H:Hp} {Q:VK}
theorem Tq {tl:TE} {l:List Nat} (ys:List V) (ha:∀ R:V->Hp->Prop,R (.str (S l)) H->tl σ H R) (hl:ys.length=l.length) (hlen:l.length<=100000)
  (step:∀ (i c:Nat) y H',l[i]?=some c->ys[i]?=some y->Yj H H'->∀ R:VK,(∀ aM,Yj H' aM->R y aM)->te (some (.str (S [c]))::YB src σ) H' R)
  (fin:∀ D H',H D=none->Yj H H'->H' D=some (.lst ys)->Q (.ref D) H'):c7 (none::src) (wM tl) (Yy 0) XO te σ H Q :=
 ha _ ⟨S l,rfl,λD hD=>U9 (Sg (S l) (λ_=>True)) ys (λ_ _=>trivial) hD (by rw [WD];simpa using hl) (by rw [WD];simpa using hlen) (λi x y H' hx hy sm R r=>by
  rw [WD,Λ] at hx
  cases e:l[i]? with
  | none=>rw [e] at hx;cases hx
  | some c =>
   rw [e] at hx
   have:V.str ⟨#[c]⟩=x:=Γ hx;subst this;exact step i c y H' e hy sm R r) λH'=>fin D H' hD⟩
end
section
variable {X:Cx}
def CK (i j:Int):Prop:=tY i j\/rB i j
theorem XD:bG X (cw .Mult) (rI CK λi j => .int (i*j)):=lJ λ_ _ _ _ _ _ _ hc q=>mul_int q (hc.elim (λh=>h.ok) λh=>h.ok)
def FZ (K:Ι) (ta:TA):TE:=λσ H Q=>ta σ H λvs H1=>∃ a b xs ys,vs=[.ref a,.ref b]/\aH K H1 a xs/\aH K H1 b ys/\xs.length=ys.length /\
 ∀ (l:Addr) (as:List Addr) (H2:Hp),H1 l=none->Yj H1 H2->H2 l=some (.lst (as.map V.ref))->as.length=xs.length ->
  (∀ (j:Nat) a x y,as[j]?=some a->xs[j]?=some x->ys[j]?=some y->H1 a=none/\H2 a=some (.tup [x,y]))->Q (.ref l) H2
theorem Tt {i:Nat} {x:Str} {pos':Pos} {pins:List (Addr×Obj)} {σ:St} {D0:Ends} (hN:X.N.Nodup) (hix:X.N[i]?=some x) (hlx:Loc X.env.scope x) (hf:X.fn x=true\/X.env.scope.names.lookup x=some .local) (D C:Addr) (s6:Δ) (H5:Hp)
  (fi:∀ h',br C s6.heap h'->Inv X pins σ H5 { s6 with heap:=h' }) (hn:∃ m,s6.heap.Ns C m) (Tv:H5 C=none) (hC:∀ {H':Hp},H' C=none->X0 X pins H' C) (qn:D0.nx (σ.set i (some (.ref D))) H5) :
  compPost (Ω X.prog X.w) X.A X.xe (some λv=>assignAll v ((gv [.Name x pos'] X.env).map (·.2))) (λ_ s'=>Χ (Ω X.prog X.w) X.A (pure PUnit.unit) (λ_ s'=>Χ (Ω X.prog X.w) X.A (pure Flow.next) (SP X pins D0) X.xe s') X.xe s') (.ref D) C (.ok .next) s6:=by
 obtain ⟨m,oC,es,ep,hoC,rC⟩:=hn;have IO:Inv X pins σ H5 s6:=fi s6.heap (Heap.SameBut.refl _ _);have IP:=IO.pinned (fp:=[C]) (λb hb=>by rw [Ξ.mp hb];exact hC Tv) (λb hb=>by rw [Ξ.mp hb];exact ⟨oC,hoC,λv z=>by (rw [rC.1] at z;cases z)⟩)
 show Χ _ _ (assign (.Name x pos') X.env (.ref D)) _ _ _
 refine aA (Yu hN hix hlx hf _ s6 σ H5 (.ref D) (.ref D) _ IP rfl qn) λ_ s7 ⟨eV,H7,I7,q7⟩=>?_
 obtain ⟨g1,g2,_⟩:=I7.pin (C,oC) (ψ _ (ψ _ (XH (Ξ.mpr rfl) hoC)));refine ⟨m,⟨oC,es,ep,g1,rC⟩,λh' sb=>Ν (Ν ⟨eV,H7,?_,q7⟩)⟩;exact I7.cX.u6 (t':=s7.toks) (ch:=[C]) (λb o hb e=>sb.extBut b o (λz=>hb (by rw [z];exact Ξ.mpr rfl)) e) (λb hb=>by rw [Ξ.mp hb];exact hC g2)
theorem Ga {i:Nat} {x:Str} {pos' apos:Pos} {elt tg iter:Expr} {ifs:List Expr} {scope:db} {pos:Pos} {src:List (Option Nat)} {N':List Str} {wi:TI} {g:TG} {tt:TT} {te:TE} (hN:X.N.Nodup) (hix:X.N[i]?=some x) (hlx:Loc X.env.scope x) (hcap:dW X scope src N') (hc:X.calm=true) (hi:PI X tg iter wi)
  (hg:∀ cl C s₀ H₀ fp pn,PG (bY X scope N' cl C s₀ H₀ fp pn) tg g) (ht:∀ cl C s₀ H₀ fp pn,lO (bY X scope N' cl C s₀ H₀ fp pn) ifs tt) (he:∀ cl C s₀ H₀ fp pn,PE (bY X scope N' cl C s₀ H₀ fp pn) elt te)
  (hfree:∀ x,(x,ο)∈scope.names->X.env.scope.names.lookup x=some ci\/X.env.scope.names.lookup x=some ο)
  (hk:scope.kind = .function) (hcell:∀ y∈scope.names,y.2 ≠ .cell) (hnames:∀ y∈scope.names,y.2 = .local->scope.names.lookup y.1=some .local)
  (hs:∀ x,gy iter X.env x=pure x) (hsw:swapsWithSole [.Name x pos'] (.ListComp elt [⟨tg,iter,ifs,0⟩] scope pos) apos.line X.env=pure true) (hf:X.fn x=true\/X.env.scope.names.lookup x=some .local) :
  PS X (.Assign [.Name x pos'] (.ListComp elt [⟨tg,iter,ifs,0⟩] scope pos) apos) (sZ (c7 src wi g tt te) (Yy i)):=by
 intro pins s σ H D0 I h;obtain ⟨cl,hcl,a,b⟩:=Vz X.env scope λx hx=>I.ok.has x (hfree x hx)
 rw [exec_Assign_arm];refine Θ (wpAny_standAt ?_);rw [hsw];refine Θ (Ν ?_);rw [if_pos rfl];refine Θ ?_;rw [arm_evalThenUse_ListComp];refine Θ ?_;refine wpAny_comprehension_free (use:=some _) rfl hs hcl hk hnames (aA (hi pins s σ H _ I h) λv s1 h1=>aA h1 λitv s2 h2=>?_);exact Fq (Po:=λv C=>compPost (Ω X.prog X.w) X.A X.xe (some λv=>assignAll v ((gv [.Name x pos'] X.env).map (·.2))) (λ_ s'=>Χ (Ω X.prog X.w) X.A (pure PUnit.unit) (λ_ s'=>Χ (Ω X.prog X.w) X.A (pure Flow.next) (SP X pins D0) X.xe s') X.xe s') v C) (Z:=λ_ _ _ _ _ _ _=>False) hcap hc (hg cl) (ht cl) (he cl) hk hcell a b h2 (Tt hN hix hlx hf) λ_ _ _ _ _ _ _ _ z=>z.elim
end
section
variable {g:Gx} {X:Cx} {k j:Nat} {x:Str} {ps:List Str} {sp:Sp} {E:XK} {e:Expr} {es:List Expr} {t:TA} {p pos cpos np:Pos}
def Gb (C:Addr) (E:XK) (t:TA):TS:=λ_ σ H=>t σ H λvs H1=>vs.length<=sizeLine/\E (.ref C) none H1
end
def wX (K:Ι) (cv:Α) (sp:Sp) (t:TA) (i:Nat) (ts:TS):TS:=λD σ H=>t σ H λvs H1=>sp (vs++[]) H1 (λv H2=>D.nx (σ.set i (some v)) H2) (λcls _ H2=>W.exmOne K cls cv=some true/\ts D σ H2)
def Nv (a:Addr) (cls:Α) (dc:Option Addr):HO := .ext λh=>∃ o vs,h.get? a=some o/\o.cls=cls/\o.data = .fields vs/\o.dict=dc
def Ends.gone (D:Ends) (j:Nat):Ends:={ nx:=λσ H=>D.nx (σ.set j none) H,rt:=D.rt,bk:=λσ H=>D.bk (σ.set j none) H,ct:=λσ H=>D.ct (σ.set j none) H }
def Gd (K:Ι) (cv:Α) (sp:Sp) (t:TA) (i j:Nat) (ts:TS):TS:=λD σ H=>t σ H λvs H1=>sp (vs++[]) H1 (λv H2=>D.nx (σ.set i (some v)) H2) (λcls dc H2=>W.exmOne K cls cv=some true/\∀ a,H2 a=none->ts (D.gone j) (σ.set j (some (.ref a))) (upd H2 a (Nv a cls dc)))
section
variable {X:Cx}
theorem Tw {g:Gx} {x:Str} {C:Addr} {pos:Pos} (h:g.mg x=some (.ref C)) (hX:X.gx=g:=by rfl) (hg:Gl X x:=by rfl) (hd:(x==("__debug__":Str))=false:=by decide):PE X (.Name x pos) (tC (.ref C)):=by
 subst hX;exact Dw hg h rfl hd
end
theorem Xn {K:Ι} {C:Addr} {f:Str} (h:fg K (.ref C) f=some none):Yf K C f:=h
theorem Wl (es:List Expr) (x:Nat) (p:Pos) (es':List Expr) (env:Env):θ (.Tuple es x p::es') env=(false,eval (.Tuple es x p) env)::θ es' env:=rfl
theorem UJ (es:List Expr) (p:Pos) (es':List Expr) (env:Env):θ (.List es p::es') env=(false,eval (.List es p) env)::θ es' env:=rfl
section
variable {src:List (Option Nat)} {te:TE} {σ:St} {Q:VK}
variable {X:Cx} {H:Hp}
def wY (a b:TI):TI:=λσ H R=>a σ H R\/b σ H R
theorem CN {tg:Expr} {l:Expr} {a b:TI} (ha:PI X tg l a) (hb:PI X tg l b):PI X tg l (wY a b):=by
 intro pins s σ H R I h;rcases h with h | h
 ·exact ha pins s σ H R I h
 ·exact hb pins s σ H R I h
end
def Nx (A:ag) (s:Δ) (u v:Α) (b:Bool):Prop:=∀ (prog:ζ) (w:ν) (E:Α->Δ->Prop) (Q:Α->Δ->Prop),Q (.bool b) s->Χ (Ω prog w) A (richCompare .Lt u v) Q E s
section
open PySem.SeqAt
open PySem.AutoSeq1 (wpAny_loadPart')
open PySem.MeetsSeq PySem.MeetsSeq2 PySem.MeetsSeq3
inductive Two (A:ag) (s:Δ):List Α->List Α->Bool->Prop
 | nn:Two A s [] [] false
 | nc {v:Α} {vs:List Α}:Two A s [] (v::vs) true
 | cn {v:Α} {vs:List Α}:Two A s (v::vs) [] false
 | eq {u v:Α} {us vs:List Α} {b:Bool}:EqAt A s u v true->Two A s us vs b->Two A s (u::us) (v::vs) b
 | ne {u v:Α} {us vs:List Α} {b:Bool}:EqAt A s u v false->Nx A s u v b->Two A s (u::us) (v::vs) b
variable {X:Cx}
end
end L2
namespace L2
open PySem
section
variable {src:List (Option Nat)} {te:TE} {σ:St} {H:Hp} {Q:VK}
theorem Ge {J:It} {P:Hp->Prop} {xs:List V} (hJ:Wd J P xs) {H1:Hp} {D:Addr} (Rl:Nat->V->Hp->Prop) (st:∀ i y H H',Rl i y H->Yj H H'->Rl i y H') (su:∀ i y H zs zs',Rl i y H->H D=some (.lst zs)->Rl i y (upd H D (.lst zs')))
  (hP:∀ H',Yj H1 H'->P H') (hD:H1 D=none) (hlen:xs.length<=100000)
  (step:∀ (i:Nat) x H' zs,xs[i]?=some x->Yj H1 H'->H' D=some (.lst zs)->∀ R:VK,(∀ y aM,Yj H' aM->Rl i y aM->R y aM)->te (some x::YB src σ) H' R)
  (fin:∀ (ys:List V) H',Yj H1 H'->H' D=some (.lst ys)->ys.length=xs.length->(∀ (j:Nat) y,ys[j]?=some y->Rl j y H')->Q (.ref D) H'):LC (none::src) J (Yy 0) XO te σ H1 Q D:=by
 have h6:100000<sizeLine:=by decide
 refine W9 hJ (λi zs σ' H'=>zs.length=i/\(∃ o,σ'=o::YB src σ)/\Yj H1 H'/\H' D=some (.lst zs)/\∀ (j:Nat) y,zs[j]?=some y->Rl j y H')
  ⟨rfl,⟨none,rfl⟩,.aj hD _,Yc,λj y h=>by simp at h⟩ (λi zs σ' H' ⟨_,_,p1,p2,_⟩=>⟨hP _ p1,p2⟩) (XX 0) ?_ ?_
 ·rintro i zs σ' H' x hx ⟨hi',⟨o,rfl⟩,sm,hd,hts⟩
  have hi:=(Η.mp hx).1
  show te (some x::YB src σ) H' _
  refine step i x H' zs hx sm hd _ λy aM s2 hy=>⟨s2 _ _ hd,by omega,by simp [hi'],⟨_,rfl⟩,.bV hD (sm.trans s2) _,Yc,λj z hj=>su _ _ _ _ _ ?_ (s2 _ _ hd)⟩
  rcases Nat.lt_trichotomy j zs.length with h1 | h1 | h1
  ·rw [aw h1] at hj
   exact st _ _ _ _ (hts j z hj) s2
  ·have hb:y=z:=by subst h1;simpa using hj
   subst hb;rw [h1,hi'];exact hy
  ·rw [List.getElem?_eq_none (by rw [Μ,av];omega)] at hj;cases hj
 ·rintro zs σ' H' ⟨hn,_,sm,hd,hts⟩
  exact fin zs H' sm hd hn hts
theorem UK {K:Ι} {tl:TE} {xs:List V} {b:Addr} (Rl:Addr->Nat->V->Hp->Prop) (st:∀ D i y H H',Rl D i y H->Yj H H'->Rl D i y H') (su:∀ D i y H zs zs',Rl D i y H->H D=some (.lst zs)->Rl D i y (upd H D (.lst zs')))
  (ha:∀ R:V->Hp->Prop,R (.ref b) H->tl σ H R) (hS:ao K H b xs) (hlen:xs.length<=100000)
  (step:∀ D (i:Nat) x H' zs,xs[i]?=some x->Yj H H'->H' D=some (.lst zs)->∀ R:VK,(∀ y aM,Yj H' aM->Rl D i y aM->R y aM)->te (some x::YB src σ) H' R)
  (fin:∀ D (ys:List V) H',H D=none->Yj H H'->H' D=some (.lst ys)->ys.length=xs.length->(∀ (j:Nat) y,ys[j]?=some y->Rl D j y H')->Q (.ref D) H'):c7 (none::src) (Wb K tl) (Yy 0) XO te σ H Q :=
 ha _ ⟨b,rfl,⟨xs,hS⟩,λD hD=>Ge (XW.imp λH' (e:Yj H H')=>e.seq hS) (Rl D) (st D) (su D) (λ_ e=>e) hD hlen (λi x H' zs hx sm hd R r=>step D i x H' zs hx sm hd R r) λys H' sm=>fin D ys H' hD sm⟩
end
mutual
inductive VL (H:Hp):V->Ζ->List Addr->Prop
 | int (i:Int):VL H (.int i) (.int i) []
 | str (x:Str) (h:bc x=true):VL H (.str x) (.str x) []
 | lst {a:Addr} {vs:List V} {ds:List Ζ} {L:List Addr}:H a=some (.lst vs)->vs.length<=10000->oR H vs ds L->VL H (.ref a) (.list ds) (a::L)
 | tup {a:Addr} {vs:List V} {ds:List Ζ} {L:List Addr}:H a=some (.tup vs)->vs.length<=10000->oR H vs ds L->VL H (.ref a) (.tuple ds) L
inductive oR (H:Hp):List V->List Ζ->List Addr->Prop
 | nil:oR H [] [] []
 | cons {v:V} {d:Ζ} {L:List Addr} {vs:List V} {ds:List Ζ} {L':List Addr}:VL H v d L->oR H vs ds L'->oR H (v::vs) (d::ds) (L++L')
end
def wZ (H H':Hp):Prop:=∀ a vs,H a=some (.tup vs)->H' a=some (.tup vs)
theorem Yj.tps {H H':Hp} (s:Yj H H'):wZ H H':=λa vs h=>s a _ h
theorem Gf {K:Ι} {tl:TE} {g:TG} {tb:TS} {D:Ends} {σ:St} {H:Hp} {a:Addr} {xs:List V} (Pv:Nat->St->Hp->Prop) (ha:∀ R:V->Hp->Prop,R (.ref a) H->tl σ H R) (h0:Pv 0 σ H) (hl:∀ i σ H,i<=xs.length->Pv i σ H->aH K H a xs)
  (hs:∀ i x σ H,xs[i]?=some x->Pv i σ H->g x σ H λσ2 H2=>tb { D with nx:=Pv (i+1),ct:=Pv (i+1),bk:=D.nx } σ2 H2) (hd:∀ σ H,Pv xs.length σ H->D.nx σ H):WJ (rm K tl) g tb D σ H:=by
 refine ha _ ⟨a,rfl,⟨xs,hl 0 σ H (ι _) h0⟩,?_⟩;exact Ph Pv h0 hl hs hd
theorem TF {a b:TI} {g:TG} {tb:TS} {D:Ends} {σ:St} {H:Hp} (h:WJ a g tb D σ H):WJ (wY a b) g tb D σ H:=.inl h
theorem TJ {a b:TI} {g:TG} {tb:TS} {D:Ends} {σ:St} {H:Hp} (h:WJ b g tb D σ H):WJ (wY a b) g tb D σ H:=.inr h
end L2
namespace L2
open PySem PySem.Spec PyProof.Rows
def dg (i:Int):List Nat:=(dq (toString i)).cps.toList
theorem TQ (n:Nat):dg (n:Int)=(Nat.toDigits 10 n).map Char.toNat:=W.KIN.signs_num n
theorem V4 {n k:Nat} (hk:0<k) (h:n<10^k):(dg (n:Int)).length<=k:=by
 rw [TQ,Β];have:=(Nat.length_repr_le_iff hk).mpr h
 rwa [<- String.length_toList,Nat.toList_repr] at this
end L2
namespace L2
open PySem
section
variable {src:List (Option Nat)} {te:TE} {σ:St} {H:Hp} {Q:VK}
theorem WN {ta:TA} {n:Nat} (I:Addr->Nat->List V->Hp->Prop) (ha:∀ R:List V->Hp->Prop,R [.int n] H->ta σ H R) (hlen:n<=100000)
  (i0:∀ D,H D=none->I D 0 [] (upd H D (.lst []))) (dl:∀ D i zs H',I D i zs H'->zs.length=i/\H' D=some (.lst zs))
  (step:∀ D (i:Nat) zs H',H D=none->i<n->I D i zs H'->∀ R:VK,(∀ y aM,aM D=some (.lst zs)->I D (i+1) (zs++[y]) (upd aM D (.lst (zs++[y])))->R y aM)->te (some (.int i)::YB src σ) H' R)
  (fin:∀ D zs H',H D=none->I D n zs H'->Q (.ref D) H'):c7 (none::src) (Uk ta) (Yy 0) XO te σ H Q:=by
 refine ha _ ⟨n,rfl,by omega,by omega,λD hD=>?_⟩;have h6:100000<sizeLine:=by decide
 refine W9 (Wz (lo:=0) (n:=n) (P:=λ_=>True)) (λi zs σ' H'=>(∃ o,σ'=o::YB src σ)/\i<=n/\I D i zs H') ⟨⟨none,rfl⟩,ι _,i0 D hD⟩ (λi zs σ' H' q=>⟨trivial,(dl _ _ _ _ q.2.2).2⟩) (XX 0) ?_ ?_
 ·rintro i zs σ' H' x hx ⟨⟨o,rfl⟩,_,hI⟩
  have hi:i<n:=by have:=(Η.mp hx).1;simpa using this
  rw [Λ,aI hi] at hx
  have e:V.int (0+(i:Int))=x:=Γ hx;rw [i6] at e
  subst e;have hl:=(dl _ _ _ _ hI).1
  show te (some (.int i)::YB src σ) H' _
  exact step D i zs H' hD hi hI _ λy aM hd hI'=>⟨hd,by omega,⟨_,rfl⟩,hi,hI'⟩
 ·rintro zs σ' H' ⟨_,_,hI⟩
  exact fin D zs H' hD (by simpa using hI)
end
end L2
namespace L2
open PySem PySem.Spec PyProof.Rows
def TV (l:List Str) (v:Str):List Str:=if l.any (·==v) then l else l++[v]
def met (val:Nat->Str) (i:Nat):List Str:=((η i).map val).foldl TV []
def sg (x:Str) (i:Nat):Str:=⟨#[x.cps.getD i 0]⟩
def M6 (a:Addr) (n:Nat):HO := .ext λh=>∃ (o:Obj) (es:Array (Int×Α)) (ep:Nat) (t:SetTable),h.get? a=some o/\o.ExactSet/\o.data = .set es ep t/\t.fits es.size=true/\es.size=n/\n<scanBound
section
variable {X:Cx} {e lo st:Expr} {te tl ts:TE} {pos p2:Pos}
def Gg (K:Ι) (te tl ts:TE):TE:=λσ H Q=>te σ H λx H1=>tl σ H1 λy H2=>ts σ H2 λz H3 =>
 ∃ (a:Addr) (xs:List V) (k n:Int),x = .ref a/\y = .int k/\z = .int n/\0<=k/\0<n/\ao K H3 a xs/\∀ p ys,H3 p=none->(∀ v∈ys,v∈xs)->ys.length<=xs.length->Q (.ref p) (upd H3 p (.lst ys))
end
structure tZ (K:Ι) (B:Addr) (m:Str) (f:Addr):Prop where
 ga:W.specialIn K (.ref B) "__getattribute__"=some (some (.builtin "type.__getattribute__"))
 rd:W.readsIn K B (.type "type")=true
 at_:W.findCls K (.ref B) (.type "type") m=some (.val (.ref f))
 kp:ff K (.ref f)=true
def Gx.Cf (g:Gx) (k:Nat) (x m:Str) (ps:List Str) (sp:Sp):Prop:=∃ B f fd,bM g.P g.w g.K g.mg g.base fY k f fd ps sp/\Xf g.K fd ps []/\tZ g.K B m f/\g.mg x=some (.ref B)
def Gx.jT (g:Gx) (x m qual:Str) (st:Stmt) (ps:List Str):Prop:=∃ B f fd,gK g.K m qual st f fd/\Xf g.K fd ps []/\tZ g.K B m f/\g.mg x=some (.ref B)
theorem Gx.Cf.mono {g:Gx} {j k:Nat} {x m:Str} {ps:List Str} {sp:Sp} (F:g.Cf j x m ps sp) (h:j<=k):g.Cf k x m ps sp:=by
 obtain ⟨B,f,fd,F,r⟩:=F;exact ⟨B,f,fd,F.mono h,r⟩
section
variable {g:Gx} {X:Cx} {k j:Nat} {x m:Str} {ps:List Str} {sp:Sp} {e:Expr} {es:List Expr} {t:TA} {p pos apos:Pos}
theorem VC {pl:Sem Bool} (F:g.Cf j x m ps sp) (hr:aQ k X.A) (ha:PA X (e::es) t) (hj:j<=k:=by omega) (hX:X.gx=g:=by rfl) (hg:Gl X x:=by rfl) (hdb:(x==("__debug__":Str))=false:=by decide)
  (hst:θ (e::es) X.env=(false,eval e X.env)::θ es X.env:=by rfl) (hpl:(bS pos (θ es X.env)).any (·.1)=false:=by rfl)
  (ht:eval (.Call (.Attribute (.Name x p) m apos) (e::es) [] pos) X.env=(do
   let ov <- eval (.Name x p) X.env
   standAt apos.atName
   let (f,first) <- holding [ov] (iA ov m pl)
   callWith pos f first (bS pos (θ (e::es) X.env)) (iP pos (gE [] X.env))):=by rfl):PE X (.Call (.Attribute (.Name x p) m apos) (e::es) [] pos) (W7 sp [] E0 t):=by
 subst hX;obtain ⟨B,f,fd,F,b,c,hm⟩:=F;intro pins s σ H Q I h;refine PySem.W.methodCall_KW (pl:=pl) (aA (Tw (g:=X.gx) (pos:=p) hm rfl hg hdb pins s σ H (λv H1=>v = .ref B/\H1=H) I ⟨rfl,rfl⟩) λu s1 ⟨v,H1,I1,rv,e1,e2⟩=>?_) ht;subst e1 e2;obtain rfl:u=ω B:=rv;refine PySem.W.method_cls I1.bF c.ga (PySem.W.cls_value I1.bF c.rd c.at_ rfl ?_);have I2:=I1.tok (s1.toks+1);refine fb (h₀:=X.base) I.ok.mod.jG c.kp (aA (ha pos pins _ σ H1 _ I2 h) λus s2 ⟨vs,H2,I3,r,q2⟩=>⟨I3.bF,?_⟩) hst hpl;exact UZ (aV:=[]) (ds:=[]) F (hr.mono hj) b .nil Vy I3 r q2
end
def Gh:R2:=λy x H Q=>∃ a o,x = .ref a/\V1 H a y o/\Q (.bl (!o.isSome)) H
def w6:R2:=λy x H Q=>∃ a o,x = .ref a/\V1 H a y o/\Q (.bl o.isSome) H
section
variable {K:Ι} {h:Heap} {mg:Str->Option Α} {P:ζ} {w:ν} {base:Heap} {f B:Addr} {x qual m:Str} {st:Stmt} {ps N:List Str} {oc kV dc pm cd ct:Α} {od an:Option Addr} {sl:Array (Option Α)} {g:Gx} {k:Nat} {sp:Sp}
theorem Gx.jT.cf (R:g.jT x m qual st ps) (S:ak N ps (Yk st)) (len:∀ vs H Q E,sp vs H Q E->vs.length=ps.length) (b:V2 g k N qual st sp):g.Cf (k+1) x m ps sp:=by
 obtain ⟨B,f,fd,F,bd,c,hm⟩:=R;exact ⟨B,f,fd,F.ok S len λcdv A outer s H vs Q E hr h=>b f cdv A outer s H vs Q E hr h,bd,c,hm⟩
theorem TX (X:K.In h) (G:h.Ns aE mg) (ps:List Str) (aB:PySem.W.nsIn K aE x=some (some (.ref B))) (ga:PySem.W.specialIn K (.ref B) "__getattribute__"=some (some (.builtin "type.__getattribute__")))
  (rd:PySem.W.readsIn K B (.type "type")=true) (a:PySem.W.findCls K (.ref B) (.type "type") m=some (.val (.ref f)))
  (l:K.lookup f=some ⟨oc,od,.func (dv m qual (Y5 st) (YZ st) (Yk st) .none kV dc pm an cd ct),sl⟩) (c:iq K cd qual=true) (k:ff K (.ref f)=true)
  (b:∀ (kV doc pm:Α) (an:Option Addr) (cdv ct:Α) (us:List Α),us.length=ps.length->gS (dv m qual (Y5 st) (YZ st) (Yk st) .none kV doc pm an cdv ct) ⟨us,[]⟩=pure (ps.zip us)) :
  ∀ P w base,(Gx.mk P w K mg base).jT x m qual st ps:=λP w base =>
 have F:=V0 (st:=st) l c k
 ⟨B,f,_,F,F.binds b,⟨ga,rd,a,k⟩,PySem.W.mg_of X G aB⟩
end
end L2
namespace L2
def Qx (a b:TE):TE:=λσ H Q=>a σ H Q\/b σ H Q
theorem QZ {X:Cx} {e:PySem.Expr} {a b:TE} (ha:PE X e a) (hb:PE X e b):PE X e (Qx a b):=λpins s σ H Q I h=>h.elim (λz=>ha pins s σ H Q I z) (λz=>hb pins s σ H Q I z)
end L2
namespace L2
open PySem PySem.Spec PyProof.Rows
section
variable {g:TG} {tb:TS} {D:Ends} {σ:St} {H:Hp}
theorem TY {K:Ι} {ta:TA} {a:Addr} {xs:List V} (Pv:Nat->St->Hp->Prop) (ha:∀ R:List V->Hp->Prop,R [.ref a] H->ta σ H R) (h0:Pv 0 σ H) (hl:∀ i σ H,i<=xs.length->Pv i σ H->ao K H a xs)
  (hs:∀ i x σ H T,xs[i]?=some x->Pv i σ H->H T=none->g (.ref T) σ (upd H T (.tup [.int (i:Int),x])) λσ2 H2=>tb { D with nx:=Pv (i+1),ct:=Pv (i+1),bk:=D.nx } σ2 H2) (hd:∀ σ H,Pv xs.length σ H->D.nx σ H):WJ (FJ K ta) g tb D σ H:=by
 refine ha _ ⟨a,xs,rfl,hl 0 σ H (ι _) h0,?_⟩;refine ⟨λi m σ H=>m=xs.length - i/\i<=xs.length/\Pv i σ H,⟨xs.length,by simp,ι _,h0⟩,?_⟩;rintro i m σ H ⟨rfl,hi,p⟩;have q:=hl i σ H hi p;by_cases hlt:i<xs.length
 ·have hx:xs[i]?=some xs[i]:=Ε hlt
  refine .inr ⟨⟨xs,_,q,hx⟩,Pv (i+1),λσ' H' p'=>⟨xs.length - (i+1),by omega,rfl,hlt,p'⟩,?_⟩;rintro v H' ⟨T,rfl,hT,heq⟩;have e:=heq xs _ q hx;subst e;exact hs i _ σ H T hx p hT
 ·have e:i=xs.length:=by omega
  subst e;exact .inl ⟨⟨xs,q,Κ _⟩,hd σ H p⟩
end
end L2
namespace L2
open PySem
theorem T6 {K:Ι} {src:List (Option Nat)} {te tl:TE} {σ:St} {H:Hp} {Q:VK} (G:Addr->List V->Hp->Prop) (ha:∀ R:V->Hp->Prop,(∀ b xs H1,ao K H1 b xs->G b xs H1->R (.ref b) H1)->tl σ H R)
  (hb:∀ b xs H1,ao K H1 b xs->G b xs H1->xs.length<=100000/\∃ Rl:Addr->Nat->V->Hp->Prop,(∀ D i y H H',Rl D i y H->Yj H H'->Rl D i y H')/\(∀ D i y H zs zs',Rl D i y H->H D=some (.lst zs)->Rl D i y (upd H D (.lst zs'))) /\
   (∀ D (i:Nat) x H' zs,xs[i]?=some x->Yj H1 H'->H' D=some (.lst zs)->∀ R:VK,(∀ y aM,Yj H' aM->Rl D i y aM->R y aM)->te (some x::YB src σ) H' R) /\
   (∀ D (ys:List V) H',H1 D=none->Yj H1 H'->H' D=some (.lst ys)->ys.length=xs.length->(∀ (j:Nat) y,ys[j]?=some y->Rl D j y H')->Q (.ref D) H')):c7 (none::src) (Wb K tl) (Yy 0) XO te σ H Q :=
 ha _ λb xs H1 hS hG=>by
  obtain ⟨hlen,Rl,st,su,step,fin⟩:=hb b xs H1 hS hG;exact ⟨b,rfl,⟨xs,hS⟩,λD hD=>Ge (XW.imp λH' (e:Yj H1 H')=>e.seq hS) (Rl D) (st D) (su D) (λ_ e=>e) hD hlen (λi x H' zs hx sm hd R r=>step D i x H' zs hx sm hd R r) λys H' sm=>fin D ys H' hD sm⟩
end L2
namespace L2
open PySem PySem.Spec PyProof.Rows
def off (H:Hp) (cs:List Addr):Hp:=λb=>if b∈cs then none else H b
def on (H' H:Hp) (cs:List Addr):Hp:=λb=>if b∈cs then H b else H' b
abbrev oU:=List (Str×Addr×V)
end L2
namespace HT
open PySem PySem.Spec PyProof.Rows
variable {prog:ζ} {w:ν} {A:ag} {E:Α->Δ->Prop} {s:Δ}
end HT
namespace L2
open PySem PySem.Spec PyProof.Rows
structure Ny (K:Ι) (x qual:Str) (st:Stmt) (f:Addr) (fd:fh) (T:Addr):Prop where
 ex:∃ (oc:Α) (od:Option Addr) (kV doc pm:Α) (an:Option Addr) (cdv ct:Α) (osl:Array (Option Α)),
  fd=dv x qual (Y5 st) (YZ st) (Yk st) (.ref T) kV doc pm an cdv ct/\K.lookup f=some ⟨oc,od,.func fd,osl⟩/\iq K cdv qual=true
 kp:ff K (.ref f)=true
def Gx.Gi (g:Gx) (k:Nat) (x:Str) (ps:List Str) (aV:List V) (sp:Sp):Prop:=∃ f fd ds,bM g.P g.w g.K g.mg g.base fY k f fd ps sp/\Yt aV ds/\Xf g.K fd ps ds/\ff g.K (.ref f)=true/\g.mg x=some (.ref f)
section
variable {g:Gx} {x qual:Str} {st:Stmt} {N ps:List Str} {aV:List V} {sp:Sp} {j k:Nat}
variable {X:Cx} {p pos:Pos} {e:Expr} {es:List Expr} {t:TA}
theorem T7 (F:g.Gi j x ps aV sp) (hr:aQ k X.A) (ha:PA X (e::es) t) (hj:j<=k) (hX:X.gx=g) (hg:Gl X x) (hdb:(x==("__debug__":Str))=false)
  (he:θ (e::es) X.env=(false,eval e X.env)::θ es X.env) (hpl:(bS pos (θ es X.env)).any (·.1)=false):PE X (.Call (.Name x p) (e::es) [] pos) (W7 sp aV E0 t):=by
 subst hX;obtain ⟨f,fd,ds,F,hv,b,kp,hm⟩:=F;exact Ej F (hr.mono hj) hg hm kp b hv Vy ha hdb he hpl
end
section
variable {src:List (Option Nat)} {te:TE} {σ:St} {H:Hp} {Q:VK}
theorem T8 {K:Ι} {tl:TE} {xs:List V} {b:Addr} (I:Addr->Nat->List V->Hp->Prop) (ha:∀ R:V->Hp->Prop,R (.ref b) H->tl σ H R) (hS:ao K H b xs) (hlen:xs.length<=100000)
  (i0:∀ D,H D=none->I D 0 [] (upd H D (.lst []))) (dl:∀ D i zs H',H D=none->I D i zs H'->zs.length=i/\H' D=some (.lst zs)/\ao K H' b xs)
  (step:∀ D (i:Nat) x zs H',H D=none->xs[i]?=some x->I D i zs H'->∀ R:VK,(∀ y aM,aM D=some (.lst zs)->I D (i+1) (zs++[y]) (upd aM D (.lst (zs++[y])))->R y aM)->te (some x::YB src σ) H' R)
  (fin:∀ D zs H',H D=none->I D xs.length zs H'->Q (.ref D) H'):c7 (none::src) (Wb K tl) (Yy 0) XO te σ H Q:=by
 refine ha _ ⟨b,rfl,⟨xs,hS⟩,λD hD=>?_⟩;have h6:100000<sizeLine:=by decide
 refine W9 XW (λi zs σ' H'=>(∃ o,σ'=o::YB src σ)/\i<=xs.length/\I D i zs H') ⟨⟨none,rfl⟩,ι _,i0 D hD⟩ (λi zs σ' H' q=>⟨(dl _ _ _ _ hD q.2.2).2.2,(dl _ _ _ _ hD q.2.2).2.1⟩) (XX 0) ?_ ?_
 ·rintro i zs σ' H' x hx ⟨⟨o,rfl⟩,_,hI⟩
  have hi:i<xs.length:=(Η.mp hx).1;have hl:=(dl _ _ _ _ hD hI).1
  show te (some x::YB src σ) H' _
  exact step D i x zs H' hD hx hI _ λy aM hd hI'=>⟨hd,by omega,⟨_,rfl⟩,hi,hI'⟩
 ·rintro zs σ' H' ⟨_,_,hI⟩
  exact fin D zs H' hD hI
end
mutual
inductive RK (h:Heap):Α->Ζ->Prop
 | int (i:Int) (t:Tok):RK h (.int i t) (.int i)
 | str (x:Str) (t:Tok) (hx:bc x=true):RK h (.str x t) (.str x)
 | tup {a:Addr} {o:Obj} {vs:Array Α} {n:Nat} {ds:List Ζ}:h.get? a=some o->o.cls = .type "tuple"->o.data = .seq vs n->dj h vs.toList ds->RK h (.ref a) (.tuple ds)
inductive dj (h:Heap):List Α->List Ζ->Prop
 | nil:dj h [] []
 | cons {v:Α} {d:Ζ} {vs:List Α} {ds:List Ζ}:RK h v d->dj h vs ds->dj h (v::vs) (d::ds)
end
mutual
inductive KO:Ζ->Prop
 | int (i:Int):KO (.int i)
 | str (x:Str):KO (.str x)
 | tup {ds:List Ζ}:fL ds->KO (.tuple ds)
inductive fL:List Ζ->Prop
 | nil:fL []
 | cons {d:Ζ} {ds:List Ζ}:KO d->fL ds->fL (d::ds)
end
mutual
theorem RK.ko {h:Heap}:∀ {v:Α} {d:Ζ},RK h v d->KO d
 | _,_,.int i t => .int i
 | _,_,.str x t _ => .str x
 | _,_,.tup _ _ _ hs => .tup hs.ko
theorem dj.ko {h:Heap}:∀ {vs:List Α} {ds:List Ζ},dj h vs ds->fL ds
 | _,_,.nil => .nil
 | _,_,.cons a b => .cons a.ko b.ko
end
mutual
theorem RK.reads {h:Heap}:∀ {v:Α} {d:Ζ},RK h v d->(∃ as,Reads h v d as)/\d.canLay0=true
 | _,_,.int i t=>⟨⟨_,.int i t⟩,rfl⟩
 | _,_,.str x t hx=>⟨⟨_,.str x t⟩,by simpa [eB] using hx⟩
 | _,_,.tup h1 h2 h3 hs=>by
  obtain ⟨⟨as,r⟩,l⟩:=hs.reads;exact ⟨⟨_,.tuple h1 h2 h3 r⟩,by rw [eB];exact l⟩
theorem dj.reads {h:Heap}:∀ {vs:List Α} {ds:List Ζ},dj h vs ds->(∃ as,ReadsAll h vs ds as)/\ei ds=true
 | _,_,.nil=>⟨⟨_,.nil⟩,rfl⟩
 | _,_,.cons a b=>by
  obtain ⟨⟨as,r⟩,l⟩:=a.reads;obtain ⟨⟨bs,r'⟩,l'⟩:=b.reads;exact ⟨⟨_,.cons r r'⟩,by rw [ei,l,l'];rfl⟩
end
theorem RK.of {h:Heap} {d:Ζ} {v:Α} {as:List Addr} (k:KO d) (r:Reads h v d as) (l:d.canLay0=true):RK h v d:=by
 induction k using KO.rec (motive_2:=λds _=>∀ {vs:List Α} {as:List Addr},ReadsAll h vs ds as->ei ds=true->dj h vs ds) generalizing v as with
 | int i=>cases r with | int _ t=>exact .int i t
 | str x=>cases r with | str _ t=>exact .str x t (by simpa [eB] using l)
 | tup _ ih=>cases r with | tuple h1 h2 h3 hs=>exact .tup h1 h2 h3 (ih hs (by rw [eB] at l;exact l))
 | nil=>rename_i r l;cases r;exact .nil
 | cons _ _ ih ihs =>
  rename_i r l;rw [ei,eJ] at l
  cases r with | cons r rs=>exact .cons (ih r l.1) (ihs rs l.2)
theorem RK.inj {h:Heap} {d:Ζ} {v:Α} {e:Ζ} (a:RK h v d) (b:RK h v e):d=e:=by
 obtain ⟨⟨_,r⟩,l⟩:=a.reads;obtain ⟨⟨_,r'⟩,_⟩:=b.reads;exact (r.unique _ _ r').1
mutual
theorem RK.keeps {h h':Heap} {x:Addr} {o:Obj} {es:Array DictEntry} {ep:Nat} (ho:h.get? x=some o) (hd:o.data = .dict es ep) (hs:br x h h'):∀ {v:Α} {d:Ζ},RK h v d->RK h' v d
 | _,_,.int i t => .int i t
 | _,_,.str y t hy => .str y t hy
 | _,_,.tup (a:=a) h1 h2 h3 ks=>by
  have hne:a≠x:=by
   rintro rfl;rw [ho] at h1
   cases h1
   rw [hd] at h3
   exact nomatch h3
  exact .tup ((hs.2 a hne).trans h1) h2 h3 (dj.keeps ho hd hs ks)
theorem dj.keeps {h h':Heap} {x:Addr} {o:Obj} {es:Array DictEntry} {ep:Nat} (ho:h.get? x=some o) (hd:o.data = .dict es ep) (hs:br x h h'):∀ {vs:List Α} {ds:List Ζ},dj h vs ds->dj h' vs ds
 | _,_,.nil => .nil
 | _,_,.cons a b => .cons (RK.keeps ho hd hs a) (dj.keeps ho hd hs b)
end
noncomputable instance ae9:DecidableEq PyData:=λa b=>Classical.propDecidable (a=b)
mutual
theorem KO.eqv:∀ {d e:Ζ},KO d->KO e->d.eqv e=decide (d=e)
 | .int a,.int b,_,_=>by
  by_cases h:a=b
  ·subst h;simp [cz]
  ·simp [cz,h]
 | .str a,.str b,_,_=>by
  by_cases h:a=b
  ·subst h;simp [cz]
  ·simp [cz,h]
 | .int a,.str b,_,_=>by simp [cz]
 | .str a,.int b,_,_=>by simp [cz]
 | .int a,.tuple b,_,_=>by simp [cz]
 | .str a,.tuple b,_,_=>by simp [cz]
 | .tuple a,.int b,_,_=>by simp [cz]
 | .tuple a,.str b,_,_=>by simp [cz]
 | .tuple a,.tuple b,.tup x,.tup y=>by
  rw [cz,fL.eqv x y];by_cases h:a=b
  ·subst h;simp
  ·simp [h]
theorem fL.eqv:∀ {ds es:List Ζ},fL ds->fL es->gI ds es=decide (ds=es)
 | [],[],_,_=>by simp [gI]
 | [],_::_,_,_=>by simp [gI]
 | _::_,[],_,_=>by simp [gI]
 | d::ds,e::es,.cons x xs,.cons y ys=>by
  rw [gI,KO.eqv x y,fL.eqv xs ys];by_cases h:d=e
  ·subst h
   by_cases h2:ds=es
   ·subst h2;simp
   ·simp [h2]
  ·simp [h]
end
section
variable {P:ζ} {w:ν}
mutual
def kh (P:ζ) (w:ν):Ζ->Int
 | .int i=>(YX P w).hash (.inl i)
 | .str x=>(YX P w).hash (.inr x)
 | .tuple ds=>reduceHash (bE (dY P w ds))
 | _=>0
def dY (P:ζ) (w:ν):List Ζ->List Int
 | []=>[]
 | d::ds=>kh P w d::dY P w ds
end
mutual
def kdr:Ζ->Nat
 | .int _=>1
 | .str _=>1
 | .tuple ds=>Wm ds+1
 | _=>0
def Wm:List Ζ->Nat
 | []=>0
 | d::ds=>kdr d+Wm ds
end
theorem T9 (a b:List Ζ):dY P w (a++b)=dY P w a++dY P w b:=by
 induction a with
 | nil=>simp [dY]
 | cons x a ih=>simp [dY,ih]
theorem YeE (a b:List Ζ):Wm (a++b)=Wm a+Wm b:=by
 induction a with
 | nil=>simp [Wm]
 | cons x a ih=>simp [Wm,ih,gN]
theorem YeF (a b:List Ζ):δ (a++b)=max (δ a) (δ b):=by
 induction a with
 | nil=>simp [δ]
 | cons x a ih=>simp [δ,ih,Nat.max_assoc]
theorem Qb {s:Δ} {a:Addr} {o:Obj} (h1:s.heap.get? a=some o) (h2:o.cls = .type "tuple"):s.TypeIs (.ref a) "tuple":=⟨o,h1,h2⟩
theorem Gj:∀ (n:Nat) {A:ag} {E:Α->Δ->Prop} {s:Δ} {v:Α} {d:Ζ} {Q:Int->Δ->Prop},RK s.heap v d->d.depth<=n->A.units+n<gc->Q (kh P w d) { s with toks:=s.toks+kdr d }->Χ (Ω P w) A (pyHash v) Q E s
 | n,A,E,s,_,_,Q,.int i t,_,_,h=>(YX P w).pyHash (tU (k := .inl i) (show YD (.int i) (.int i t) from ⟨t,rfl⟩)) (by simpa [kh,kdr] using h)
 | n,A,E,s,_,_,Q,.str x t _,_,_,h=>(YX P w).pyHash (tU (k := .inr x) (show YD (.str x) (.str x t) from ⟨t,rfl⟩)) (by simpa [kh,kdr] using h)
 | 0,A,E,s,_,_,Q,.tup _ _ _ _,hd,_,h=>by simp [υ] at hd
 | n+1,A,E,s,_,_,Q,.tup (a:=a) (ds:=ds) h1 h2 h3 ks,hd,hu,h=>by
  have hT:=Qb h1 h2;unfold pyHash
  first | unfold pyHashByItsType | skip
  first | refine Θ (wpAny_cRoomFor_or (.inr (by omega)) ?_) | skip
  refine Θ (ie hT F.slot_tuple_hash.lookup ?_)
  show Χ _ _ (if (some (Value.builtin "tuple.__hash__")==some ia)=true then _ else _) Q E s
  rw [if_neg (by rw [beq_builtin_none];exact ρ)];refine Θ (ie hT F.slot_tuple_hash.lookup ?_);refine Θ (wpAny_callSpecialIfBoundUnlessNone?_slot hT F.slot_tuple_hash (fE F.slot_tuple_hash hT F.entry_tuple_hash ?_ (F.args_tuple_hash_1 _)))
  show Χ _ _ (Builtin.Tuple.tupleItemsOf (.ref a) >>= _) _ _ s
  refine Θ (wpAny_tupleItemsOf h1 h3 ?_);refine Θ ?_;rw [<- Array.forIn_toList];have hdd:δ ds<=n:=by simp only [υ] at hd;omega
  refine wpAny_forIn_list _ (λYI (b:Array Int) s'=>∃ done left,ds=done++left/\dj s.heap YI left/\b.toList=dY P w done/\s'={ s with toks:=s.toks+Wm done }) _ ?_ ?_ _ _ ⟨[],ds,rfl,ks,by simp [dY],by simp [Wm]⟩
  ·rintro x YI b s' ⟨done,left,e,hl,hb,rfl⟩
   cases hl with
   | @cons _ d _ ds' hk hl' =>
    have hdk:d.depth<=n:=by
     rw [e,YeF] at hdd
     simp only [δ] at hdd;omega
    have hin:A.in1.units+n<cLine:=by
     have:A.in1.units=A.units+1:=rfl;omega
    refine Θ (Gj n (s:={ s with toks:=s.toks+Wm done }) hk hdk hin ?_);have fin:∃ m8 left',ds=m8++left'/\dj s.heap YI left'/\(b.push (kh P w d)).toList=dY P w m8/\({ s with toks:=s.toks+Wm done+kdr d }:Δ)={ s with toks:=s.toks+Wm m8 } :=
     ⟨done++[d],ds',by rw [e];simp,hl',by rw [T9,Array.toList_push,hb];simp [dY],by rw [YeE];simp [Wm,gN]⟩
    first
     | exact Ν fin
     | exact Θ (Ν (Ν fin))
  ·rintro b s' ⟨done,left,e,hl,hb,rfl⟩
   cases hl
   rw [a4] at e
   subst e
   show Χ _ _ (retInt (bE b.toList)) _ _ _
   rw [hb];refine wpAny_ret_mkInt ?_;simp only [kh,kdr] at h;unfold reduceHash at h
   show Χ _ _ (if (decide (-(2:Int)^63<=bE (dY P w ds))&&decide (bE (dY P w ds)<2^63))=true then _ else _) Q E _
   by_cases hr:(decide (-(2:Int)^63<=bE (dY P w ds))&&decide (bE (dY P w ds)<2^63))=true
   ·rw [if_pos hr]
    rw [if_pos hr] at h
    exact Ν (by simpa [gN] using h)
   ·rw [if_neg hr]
    rw [if_neg hr] at h
    exact Θ (wpAny_rule (Ν (by simpa [gN] using h)))
theorem Gk:∀ (n:Nat) {A:ag} {E:Α->Δ->Prop} {s:Δ} {v:Α} {d:Ζ} {Q:Bool->Δ->Prop},RK s.heap v d->d.depth<=n->Q true s->Χ (Ω P w) A (eqIsQuiet n v) Q E s
 | n,A,E,s,_,_,Q,.int i t,_,h=>by rw [eqIsQuiet_byValue _ (by rfl)];exact Ν h
 | n,A,E,s,_,_,Q,.str x t _,_,h=>by rw [eqIsQuiet_byValue _ (by rfl)];exact Ν h
 | 0,A,E,s,_,_,Q,.tup _ _ _ _,hd,h=>by simp [υ] at hd
 | n+1,A,E,s,_,_,Q,.tup (a:=a) (ds:=ds) h1 h2 h3 ks,hd,h=>by
  have hT:=Qb h1 h2;have hdd:δ ds<=n:=by simp only [υ] at hd;omega
  unfold eqIsQuiet;refine Θ (ie hT F.slot_tuple_eq.lookup ?_);refine Θ (wpAny_isInstance hT isSubtype_tuple_tuple ?_);simp only [Bool.not_true,dA,if_false];refine Θ (wpAny_seqItems h1 h3 ?_);refine Θ ?_;rw [Option.getD_some,<- Array.forIn_toList];refine wpAny_forIn_list _ (λYI r s'=>r.1=none/\s'=s/\∃ left,dj s.heap YI left/\δ left<=n) _ ?_ ?_ _ _ ⟨rfl,rfl,ds,ks,hdd⟩
  ·rintro v YI r s' ⟨hr,rfl,left,hl,hdl⟩
   cases hl with
   | @cons _ d _ ds' hk hl' =>
    simp only [δ] at hdl;refine Θ (Gk n hk (by omega) ?_);simp only [Bool.not_true,dA,if_false];exact Ν ⟨rfl,rfl,ds',hl',by omega⟩
  ·rintro ⟨r1,r2⟩ s' ⟨hr,rfl,_⟩
   simp only at hr;subst hr;exact Ν h
noncomputable def fD (P:ζ) (w:ν):HeapKind P w Ζ where
 is:=λh d a=>RK h (.ref a) d/\d.depth<=8
 hash:=kh P w
 draws:=kdr
 room:=λA=>A.units+8<gc
 inj:=λhx hy=>hx.1.inj hy.1
 keeps:=λx ho hd hs=>⟨x.1.keeps ho hd hs,x.2⟩
 pyHash:=λhu hk h=>Gj 8 hk.1 hk.2 hu h
 eqBool:=λ{A E s x y a b Q} hu hx hy h=>by
  obtain ⟨⟨as,r1⟩,l1⟩:=hx.1.reads;obtain ⟨⟨bs,r2⟩,l2⟩:=hy.1.reads;have hm:min x.depth y.depth<=8:=Ο (Nat.min_le_left _ _) hx.2;exact SeqAt.eqAt_reads x y A s _ _ _ _ r1 r2 l1 l2 (by omega) P w E Q (by rw [KO.eqv hx.1.ko hy.1.ko];exact h)
 quiet:=λhk h=>Gk 8 hk.1 hk.2 h
end
abbrev Dx:=List (Ζ×Addr×Addr)
def XC (x:Ζ×Addr×Addr):Ζ×Addr×Value:=(x.1,x.2.1,.ref x.2.2)
noncomputable def bT (P:ζ) (w:ν) (a:Addr) (xs:Dx):HO := .ext λh=>(a==eQ)=false/\∃ o es ep,h.get? a=some o/\o.ExactDict/\o.data = .dict es ep/\es.toList=(xs.map XC).map (entryOfKey (fD P w))
theorem xg {P:ζ} {w:ν} {H:Hp} {h:Heap} {a:Addr} {xs:Dx} (hd:(a==eQ)=false) (e:∃ o es ep,h.get? a=some o/\o.ExactDict/\o.data = .dict es ep/\es.toList=(xs.map XC).map (entryOfKey (fD P w))):YV P w H h a (bT P w a xs):=by
 refine ⟨⟨hd,e⟩,?_,λh1 h2 p k=>?_⟩
 ·obtain ⟨o,es,ep,h1,_⟩:=e
  exact ⟨o,h1⟩
 ·obtain ⟨q,o,es,ep,g1,g2⟩:=p
  exact ⟨q,o,es,ep,k _ g1,g2⟩
structure DK (K:Ι) (H:Hp) (b:Addr) (d:Ζ):Prop where
 den:Den K H (.ref b) d
 ko:KO d
 dp:d.depth<=8
theorem DK.keep {K:Ι} {H H':Hp} {b:Addr} {d:Ζ} (h:DK K H b d) (s:Yj H H'):DK K H' b d:=⟨h.den.keep s,h.ko,h.dp⟩
noncomputable def aJ (xs:Dx) (d:Ζ):Option Addr:=(xs.find? λx=>decide (x.1=d)).map (·.2.2)
structure bx (P:ζ) (w:ν) (K:Ι) (H:Hp) (a:Addr) (xs:Dx):Prop where
 at_:H a=some (bT P w a xs)
 nd:(xs.map (·.1)).Nodup
 len:xs.length<=1000
 keys:∀ x∈xs,DK K H x.2.1 x.1
section
variable {X:Cx} {pins:List (Addr×Obj)} {σ:St} {H:Hp} {s:Δ} {a b:Addr} {d:Ζ} {xs:Dx} {u r:Α} {A:ag} {E:Α->Δ->Prop}
theorem Qd (I:Inv X pins σ H s) (h:DK X.K H b d):(fD X.prog X.w).is s.heap d b:=by
 obtain ⟨as,r⟩:=h.den.reads I (show YD (.ref b) (.ref b) from rfl);exact ⟨RK.of h.ko r h.den.lay,h.dp⟩
theorem Qe (I:Inv X pins σ H s) (h:bx X.prog X.w X.K H a xs):(a==eQ)=false/\s.heap.DictOfH (fD X.prog X.w) a (xs.map XC):=by
 obtain ⟨⟨hd,o,es,ep,h1,h2,h3,h4⟩,_⟩:=(show YV X.prog X.w H s.heap a (bT X.prog X.w a xs) from I.hok a _ h.at_);refine ⟨hd,o,es,ep,h1,h2,h3,h4,λx hx=>?_,?_⟩
 ·obtain ⟨y,hy,rfl⟩:=ar.mp hx
  exact Qd I (h.keys y hy)
 ·have:(xs.map XC).map (·.1)=xs.map (·.1):=by rw [bn];rfl
  rw [this];exact h.nd
theorem WB (xs:Dx) (d:Ζ):(atKey (xs.map XC) d).map (·.2)=(aJ xs d).map Α.ref:=by
 induction xs with
 | nil=>rfl
 | cons x xs ih =>
  by_cases h:x.1=d
  ·simp [atKey,aJ,aT,XC,h]
  ·simp only [atKey,aJ,aa,aT,XC,h] at ih ⊢
   simpa using ih
theorem YcO {p:Addr} {Q:Α->Δ->Prop} (hu:A.units+9<gc) (I:Inv X pins σ H s) (g:bx X.prog X.w X.K H a xs) (k:DK X.K H b d) (l:aJ xs d=some p) (h:∀ s',Inv X pins σ H s'->Q (.ref p) s') :
  Χ (Ω X.prog X.w) A (eP (.ref a) (.ref b)) Q E s:=by
 obtain ⟨hd,dd⟩:=Qe I g;have e:=WB xs d;rw [l] at e
 obtain ⟨q,hq,hq2⟩:=ε.mp e;refine wpAny_getItem_heap (show A.in1.units+8<gc from by have:A.in1.units=A.units+1:=rfl;omega) (Qd I k) dd hq ?_;rw [hq2];exact h _ (I.tok _)
theorem YeG {Q:Α->Δ->Prop} (hu:A.units+9<gc) (I:Inv X pins σ H s) (g:bx X.prog X.w X.K H a xs) (k:DK X.K H b d) (h:∀ s',Inv X pins σ H s'->Q (.bool (!(aJ xs d).isSome)) s') :
  Χ (Ω X.prog X.w) A (da .NotIn (.ref b) (.ref a)) Q E s:=by
 obtain ⟨hd,dd⟩:=Qe I g;refine wpAny_notIn_heap (show A.in1.units+8<gc from by have:A.in1.units=A.units+1:=rfl;omega) (Qd I k) hd dd ?_;have e:=congrArg Option.isSome (WB xs d);rw [Option.isSome_map,Option.isSome_map] at e
 rw [e];exact h _ (I.tok _)
theorem Qf {p:Addr} {Q:Unit->Δ->Prop} (hu:A.units+9<gc) (I:Inv X pins σ H s) (g:bx X.prog X.w X.K H a xs) (k:DK X.K H b d) (l:aJ xs d=none) (hl:xs.length<1000) (h:∀ s',Inv X pins σ (upd H a (bT X.prog X.w a (xs++[(d,b,p)]))) s'->Q () s') :
  Χ (Ω X.prog X.w) A (setItem (.ref a) (.ref b) (.ref p)) Q E s:=by
 obtain ⟨hd,dd⟩:=Qe I g;have hz:(xs.map XC).length<=sizeLine:=by rw [Β];exact Ο (ic hl) (by decide)
 refine wpAny_setItem_heap (hsz:=hz) (show A.in1.units+8<gc from by have:A.in1.units=A.units+1:=rfl;omega) (Qd I k) dd λh' oV hs=>h _ ?_
 have e:atKey (xs.map XC) d=none:=by
  have e:=WB xs d;rw [l] at e
  cases q:atKey (xs.map XC) d with
  | none=>rfl
  | some z=>rw [q] at e;cases e
 rw [storedH_new e] at oV
 obtain ⟨q,es,ep,hq,h2,h3,h4,_,h5⟩:=oV;refine Fj I (by rw [g.at_];exact dk) hs ⟨q,hq⟩ (xg hd ⟨q,es,ep,hq,h2,h3,?_⟩);rw [h4,a8 (f:=XC)];rfl
end
def Qg (P:ζ) (w:ν) (K:Ι) (td ty:TE):TE:=λσ H Q=>td σ H λx H1=>ty σ H1 λy H2=>∃ a b xs d p,x = .ref a/\y = .ref b/\bx P w K H2 a xs/\DK K H2 b d/\aJ xs d=some p/\Q (.ref p) H2
def Gm (P:ζ) (w:ν) (K:Ι) (td ty tv:TE):TS:=λD σ H=>tv σ H λv H1=>td σ H1 λx H2=>ty σ H2 λy H3=>∃ a b xs d p,v = .ref p/\x = .ref a/\y = .ref b/\bx P w K H3 a xs/\DK K H3 b d/\aJ xs d=none/\xs.length<1000/\D.nx σ (upd H3 a (bT P w a (xs++[(d,b,p)])))
def YgH (P:ζ) (w:ν):TE:=λ_ H Q=>∀ p,H p=none->Q (.ref p) (upd H p (bT P w p []))
section
variable {X:Cx} {o i e value:Expr} {pos pos' tpos:Pos} {td ty tv:TE} {k:Nat}
theorem V5 {A:ag} {k:Nat} (hr:aQ k A):A.units+9<cLine:=gi (Nat.add_le_add_left (by decide:9<=64) _) hr.units
theorem YeH (hr:aQ k X.A) (ho:PE X o td) (hi:PE X i ty) (hs:rN i):PE X (.Subscript o i pos) (Qg X.prog X.w X.K td ty):=by
 intro pins s σ H Q I h;refine Fl F.slot_dict_getitem.lookup hs (aA (ho pins s σ H _ I h) λu s1 ⟨x,H1,I1,rx,q1⟩=>aA (hi pins s1 σ H1 _ I1 q1) λiv s2 ⟨y,H2,I2,ry,a,b,xs,d,p,ex,ey,g,kk,l,q2⟩=>?_);subst ex ey;obtain rfl:u=ω a:=rx;obtain rfl:iv=ω b:=ry;exact ⟨(Qe I2 g).2.typeIs,YcO (V5 hr) I2 g kk l λs3 I3=>⟨.ref p,H2,I3,rfl,q2⟩⟩
theorem YeI (hr:aQ k X.A) (ho:PE X o td) (hi:PE X i ty) (hv:PE X value tv) (hs:swapsWith value (some (.Subscript o i pos')) pos.line X.env=pure false) :
  PS X (.Assign [.Subscript o i pos'] value pos) (Gm X.prog X.w X.K td ty tv):=by
 intro pins s σ H D I h;refine wpAny_Assign_Subscript (aA (hv pins s σ H _ I h) λr s1 ⟨v,H1,I1,rv,q1⟩=>aA (ho pins s1 σ H1 _ I1 q1) λu s2 ⟨x,H2,I2,rx,q2⟩=>aA (hi pins s2 σ H2 _ I2 q2) λiv s3 ⟨y,H3,I3,ry,a,b,xs,d,p,ev,ex,ey,g,kk,l,hl,q3⟩=>?_) hs;subst ex ey ev;obtain rfl:u=ω a:=rx;obtain rfl:iv=ω b:=ry;obtain rfl:r=ω p:=rv;exact Qf (V5 hr) I3 g kk l hl λs4 I4=>⟨σ,_,I4,q3⟩
theorem YeJ:PE X (.Dict [] [] pos) (YgH X.prog X.w):=λpins s σ H Q I h =>
 wpAny_Dict_empty ⟨.ref s.heap.objs.size,_,I.laid (a:=s.heap.objs.size) (o:=bT X.prog X.w s.heap.objs.size []) (t':=s.toks) (λ_ _ q=>Ρ _ q) (Κ _) (xg (beq_eq_false_iff_ne.mpr (am (ς I.big))) ⟨_,#[],0,ah _ rfl,⟨rfl,rfl,rfl⟩,rfl,rfl⟩),rfl,h _ (I.hok.fresh (Κ _))⟩
end
def Wf (H H':Hp):Prop:=∀ b xs,Rd H b (.tup xs)->Rd H' b (.tup xs)
theorem Wf.sq {K:Ι} {H H':Hp} (t:Wf H H') {b:Addr} {xs:List V} (h:aH K H b xs):aH K H' b xs:=by
 rcases h with h | h
 ·exact .inl (t _ _ h)
 ·exact .inr h
theorem Wn {H H':Hp} (s:Yj H H'):Wf H H':=λb xs h=>by
 rcases h with h | ⟨o,h⟩
 ·exact .inl (s _ _ h)
 ·exact .inr ⟨o,s _ _ h⟩
theorem Wp {H H':Hp} {P:Addr} {u:HO} (hk:∀ b o,b≠P->H b=some o->H' b=some o) (hP:H P=some u) (h1:∀ xs,u ≠ .tup xs) (h2:∀ o v,u ≠ .dO o v):Wf H H':=λb xs h=>by
 rcases h with h | ⟨o,h⟩
 ·exact .inl (hk _ _ (Xw h hP (λz=>h1 _ z.symm)) h)
 ·exact .inr ⟨o,hk _ _ (Xw h hP (λz=>h2 _ _ z.symm)) h⟩
theorem YeK {K:Ι} {H H':Hp} (t:Wf H H') {d:Ζ} {v:V} (k:KO d) (r:Den K H v d):Den K H' v d:=by
 induction k using KO.rec (motive_2:=λds _=>∀ {vs:List V},bI K H vs ds->bI K H' vs ds) generalizing v with
 | int i=>cases r with | int _=>exact .int i
 | str x=>cases r with | str _ h=>exact .str x h
 | tup _ ih=>cases r with | tup h hs=>exact .tup (t.sq h) (ih hs)
 | nil=>rename_i r;cases r;exact .nil
 | cons _ _ ih ihs=>rename_i r;cases r with | cons a b=>exact .cons (ih a) (ihs b)
theorem DK.cB {K:Ι} {H H':Hp} {b:Addr} {d:Ζ} (h:DK K H b d) (t:Wf H H'):DK K H' b d:=⟨YeK t h.ko h.den,h.ko,h.dp⟩
theorem bx.keep {P:ζ} {w:ν} {K:Ι} {H H':Hp} {a:Addr} {xs:Dx} (h:bx P w K H a xs) (t:Wf H H') (e:H' a=some (bT P w a xs)):bx P w K H' a xs:=⟨e,h.nd,h.len,λx hx=>(h.keys x hx).cB t⟩
theorem YcP {xs:Dx} {d:Ζ} (h:aJ xs d=none):d∉xs.map (·.1):=by
 intro hm;obtain ⟨x,hx,rfl⟩:=ar.mp hm;unfold aJ at h;rw [Option.map_eq_none_iff,List.find?_eq_none] at h
 exact h x hx (by simp)
theorem WO (xs:Dx) (d e:Ζ) (b p:Addr) (h:aJ xs d=none):aJ (xs++[(d,b,p)]) e=if e=d then some p else aJ xs e:=by
 unfold aJ;rw [List.find?_append];by_cases c:e=d
 ·subst c
  have h':xs.find? (λx=>decide (x.1=e))=none:=by
   unfold aJ at h
   rwa [Option.map_eq_none_iff] at h
  rw [h',if_pos rfl];simp
 ·rw [if_neg c]
  have:([(d,b,p)]:Dx).find? (λx=>decide (x.1=e))=none:=by simp [am c]
  rw [this];simp
theorem bx.put {P:ζ} {w:ν} {K:Ι} {H:Hp} {a b p:Addr} {d:Ζ} {xs:Dx} (h:bx P w K H a xs) (k:DK K H b d) (l:aJ xs d=none) (hl:xs.length<1000):bx P w K (upd H a (bT P w a (xs++[(d,b,p)]))) a (xs++[(d,b,p)]):=by
 have t:Wf H (upd H a (bT P w a (xs++[(d,b,p)]))):=Wp (λb o hb e=>by rw [Yh hb];exact e) h.at_ (by intro xs z;cases z) (by intro o v z;cases z);refine ⟨Yc,?_,by rw [Μ,av];omega,λx hx=>?_⟩
 ·rw [a8]
  refine List.nodup_append.mpr ⟨h.nd,by simp,λx hx y hy e=>?_⟩;subst e;have:x=d:=by simpa using hy
  subst this;exact YcP l hx
 ·rcases bg.mp hx with hx | hx
  ·exact (h.keys x hx).cB t
  ·have:x=(d,b,p):=by simpa using hx
   subst this;exact k.cB t
theorem YdR {P:ζ} {w:ν} {K:Ι} {H:Hp} {a:Addr} (h:H a=some (bT P w a [])):bx P w K H a []:=⟨h,by simp,by simp,λx hx=>by cases hx⟩
section
variable {X:Cx} {k:Nat}
theorem YcQ (hr:aQ k X.A):bG X (da .NotIn) (λy x H Q=>∃ a b xs d,x = .ref a/\y = .ref b/\bx X.prog X.w X.K H a xs/\DK X.K H b d/\Q (.bl (!(aJ xs d).isSome)) H):=by
 intro pins s σ H y x u v Q I ry rx h;obtain ⟨a,b,xs,d,rfl,rfl,g,kk,q⟩:=h
 cases (show u=ω b from ry)
 cases (show v=ω a from rx)
 exact YeG (V5 hr) I g kk λs' I'=>⟨.bl (!(aJ xs d).isSome),H,I',rfl,q⟩
end
section
variable {X:Cx} {e:Expr} {f:Str} {pos:Pos} {ta:TE}
theorem Qy {K:Ι} (he:PE X e ta) (hb:fI e f X.env (eval e X.env)=eval e X.env) (h:X.K=K:=by rfl):PE X (.Attribute e f pos) (tH K ta f):=by subst h;exact Yv he hb
end
end L2
namespace L2
open PySem PySem.Spec PyProof.Rows
theorem YgI {X:Cx} {g:Gx} {j k:Nat} {x:Str} {C:Addr} {ps:List Str} {sp:Sp} {p pos:Pos} (F:g.Ma j x C ps sp) (hr:aQ k X.A) (hj:j+1<=k) (hX:X.gx=g) (hg:Gl X x) (hdb:(x==("__debug__":Str))=false) :
  PE X (.Call (.Name x p) [] [] pos) (Uo C sp [] E0 Vw):=by
 subst hX;obtain ⟨f,fd,F,b,M,hm⟩:=F;exact Ri M F (hr.mono hj) hg hm b .nil Vy hdb
section
variable {M:Model} {A:ag} {E:Α->Δ->Prop} {s:Δ}
theorem Ybh {scope:db} {globals:Addr} {cl:List (Str×Addr)} {qual:Str} {outer:Env} {Q:Env->Δ->Prop} {y:Str} (hcf:∀ n acc,ez n scope.names acc=(y,n)::acc)
  (h:∀ h',(∀ b o,s.heap.get? b=some o->h'.get? b=some o)->h'.Ns s.heap.objs.size (λ_=>none)->h'.IsCell (s.heap.objs.size+1) none->Q (newEnv scope s.heap.objs.size globals ((y,s.heap.objs.size+1)::cl) qual none .none (some outer) builtinsNs) { s with heap:=h' }) :
  Χ M A (newFunctionEnv scope globals cl [] qual none .none (some outer)) Q E s:=by
 obtain ⟨hh,g,d,t,os⟩:=s;unfold newFunctionEnv;refine Θ (wpAny_alloc' ?_);refine Θ (wpAny_forIn_list _ (λYI b s'=>(ez s'.heap.objs.size YI b=(y,hh.objs.size+1)::cl/\(∀ a o,(hh.push { cls := .type (if (some outer).isSome=true then "dict" else "frame"),data := .dict #[] }).get? a=some o->s'.heap.get? a=some o)/\(∃ own:List (Str×Addr),b=own++cl/\∀ p∈own,s'.heap.IsCell p.2 none)/\s'={ heap:=s'.heap,gens:=g,drawn:=d,toks:=t,os:=os })) _ ?_ ?_ _ _ ⟨?_,λ_ _ e=>e,⟨[],rfl,λp hp=>(by cases hp)⟩,rfl⟩)
 ·rintro ⟨nm,kd⟩ YI b s' ⟨h1,h2,⟨own,rfl,h3⟩,h4⟩
  rw [ez] at h1
  dsimp only;by_cases c:(kd==ci)=true
  ·rw [if_pos c] at h1 ⊢
   rw [h4];refine Θ (wpAny_alloc' (Ν ⟨?_,λa o e=>Ρ _ (h2 a o e),⟨(nm,s'.heap.objs.size)::own,rfl,λp hp=>?_⟩,rfl⟩))
   ·show ez (s'.heap.push _).objs.size YI _=_
    rw [ir];exact h1
   ·rcases Φ.mp hp with rfl | hp
    ·exact ⟨_,Heap.get?_push_at rfl rfl,rfl⟩
    ·obtain ⟨o,e1,e2⟩:=h3 p hp
     exact ⟨o,Ρ _ e1,e2⟩
  ·rw [if_neg c] at h1 ⊢
   exact Ν ⟨h1,h2,⟨own,rfl,h3⟩,h4⟩
 ·rintro b s' ⟨h1,h2,⟨own,rfl,h3⟩,h4⟩
  have h1:own++cl=(y,hh.objs.size+1)::cl:=by
   have:ez s'.heap.objs.size [] (own++cl)=own++cl:=by rw [ez]
   rw [<- this];exact h1
  have eo:own=[(y,hh.objs.size+1)]:=List.append_cancel_right (bs:=cl) (by simpa using h1);subst eo;rw [h4];exact Θ (Ν (Ν (h s'.heap (λb o e=>h2 b o (Ρ _ e)) ((Heap.Ns.new hh _).keeps h2) (h3 _ (.head _)))))
 ·show ez (hh.push _).objs.size _ _=_
  rw [ir];exact hcf _ _
end
def dH (X:Cx) (scope:db) (N':List Str) (y:Str) (cl:List (Str×Addr)) (C:Addr) (s₀:Δ) (H₀:Hp) (fp:List Addr) (pn:List (Addr×Obj)):Cx :=
 { X with N:=N',s₀:=s₀,H₀:=H₀,env:=cr scope ((y,C+1)::cl) C X.env,outer:=X.stack,ex:=fp,fn:=λz=>z==y,pn:=pn,xe:=λ_ _=>False }
section
variable {X:Cx}
theorem YdS {y:Str} {scope:db} {N':List Str} {src:List (Option Nat)} {cl:List (Str×Addr)} {pins:List (Addr×Obj)} {σ:St} {H:Hp} {s s':Δ} {h':Heap} {tk:Nat} {fp:List Addr} {m:Str->Option Α}
  (hk:scope.kind = .function) (hyc:scope.names.lookup y=some .cell) (hone:∀ z∈scope.names,z.2 = .cell->z.1=y) (hcap:dW X scope src N')
  (a:∀ x c,cl.lookup x=some c->X.env.cells.lookup x=some c) (b:∀ x,(x,ο)∈scope.names->∃ c,cl.lookup x=some c)
  (I:Inv X pins σ H s) (hf:∀ b∈fp,X0 X pins H b) (hfl:∀ b∈fp,b<s.heap.objs.size) (es':s'={ s with heap:=h',toks:=tk })
  (keep:∀ b o,s.heap.get? b=some o->h'.get? b=some o) (hn:h'.Ns s.heap.objs.size m) (hce:h'.IsCell (s.heap.objs.size+1) none) :
  Inv (dH X scope N' y cl s.heap.objs.size s H fp (X.pn++pins)) [] (YB src σ) H s':=by
 subst es';have kindOf:∀ x,(cr scope ((y,s.heap.objs.size+1)::cl) s.heap.objs.size X.env).kindOf x=(scope.names.lookup x).map λk=>if (k==ο&&X.env.scope.kind == .function&&X.env.kindOf x==some .cell) then ci else k:=λx=>Wk X.env x
 have freeOf:∀ x,((cr scope ((y,s.heap.objs.size+1)::cl) s.heap.objs.size X.env).kindOf x=some .cell\/(cr scope ((y,s.heap.objs.size+1)::cl) s.heap.objs.size X.env).kindOf x=some .free)->scope.names.lookup x=some .free\/x=y:=λx h=>by
  rw [kindOf] at h
  cases q:scope.names.lookup x with
  | none=>rw [q] at h;simp at h
  | some k =>
   rw [q] at h
   by_cases hkf:k=ο
   ·rw [hkf];exact .inl rfl
   ·have rO:(k==ο)=false:=by simpa using hkf
    simp only [dQ,rO,Bool.false_and,dA,if_false] at h;rcases h with h | h
    ·exact .inr (hone _ (bv q) (Γ h))
    ·exact absurd (Γ h) hkf
 have split:∀ {x:Str} {c:Addr},b9 x ((y,s.heap.objs.size+1)::cl)=some c->(x=y/\c=s.heap.objs.size+1)\/(x≠y/\cl.lookup x=some c):=λ{x c} h=>by
  rw [Υ] at h
  by_cases e:(x==y)=true
  ·rw [e] at h
   exact .inl ⟨by simpa using e,(Γ h).symm⟩
  ·rw [ek.mpr e] at h
   exact .inr ⟨by simpa using e,h⟩
 have old:∀ {x:Str} {c:Addr},cl.lookup x=some c->c<s.heap.objs.size:=λ{x c} h=>by
  obtain ⟨v,o,ho,_⟩:=I.cell x c (a x c h);exact Ψ ho
 have ny:∀ {x:Str},scope.names.lookup x=some .free->x≠y:=λh z=>by rw [z,hyc] at h;cases h
 have uc:∀ {x:Str} {c:Addr},x≠y->cl.lookup x=some c->b9 x ((y,s.heap.objs.size+1)::cl)=some c:=λ{x c} n h=>by
  rw [Υ,show (x==y)=false by simpa using n];exact h
 refine ⟨⟨I.ok.mod,hk,I.ok.glob,I.ok.blt,Κ _,λx z c h1 h2=>?_,λx hx=>?_,λx c z h=>?_,I.ok.hd,I.ok.frames,.inl rfl,λb' hb=>?_,I.bs,Ο I.ok.fX I.sz,λb' o e hb=>?_,λb' hb z=>?_,I.stack,I.ji⟩,
  rfl,I.bare,Un.kept keep,⟨m,hn,λj x v h1 h2 h3=>?_⟩,λx c h=>?_,I.hok.fresh (Κ _),λx c h=>?_,λp hp=>?_,I.hok.kept keep,?_⟩
 ·rcases split h1 with ⟨e1,e2⟩ | ⟨e1,e2⟩
  ·rcases split h2 with ⟨e3,_⟩ | ⟨_,e4⟩
   ·rw [e1,e3]
   ·have hlt:=old e4
    rw [e2] at hlt
    exact absurd hlt (iN.mpr (dm _))
  ·rcases split h2 with ⟨_,e4⟩ | ⟨_,e4⟩
   ·have hlt:=old e2
    rw [e4] at hlt
    exact absurd hlt (iN.mpr (dm _))
   ·exact I.ok.inj x z c (a x c e2) (a z c e4)
 ·rcases freeOf x hx with h | h
  ·obtain ⟨c,hc⟩:=b x (XQ h)
   exact ⟨c,uc (ny h) hc⟩
  ·subst h
   exact ⟨_,List.lookup_cons_self⟩
 ·rcases split h with ⟨_,e⟩ | ⟨e,_⟩
  ·rw [e]
   exact dm _
  ·exact absurd (by simpa [dH] using z) e
 ·obtain ⟨f0,f1,f2,f3,f4,f5⟩:=hf b' hb
  refine ⟨ς (hfl b' hb),λx c h=>?_⟩;rcases split h with ⟨_,e⟩ | ⟨_,e⟩
  ·have hlt:=hfl b' hb
   rw [e];exact λz=>absurd (z▸hlt) (iN.mpr (dm _))
  ·exact f4 x c (a x c e)
 ·obtain ⟨f0,f1,f2,f3,f4,f5⟩:=hf b' hb
  rcases f3 with z | z
  ·exact I.ok.jh b' o e z
  ·exact absurd (τ (Ψ e) (Ο I.ok.fX z)) (ce _)
 ·obtain ⟨f0,f1,f2,f3,f4,f5⟩:=hf b' hb
  rcases Φ.mp (I.cZ b' z) with e | e
  ·exact f1 e
  ·exact f2 e
 ·obtain ⟨i,e1,e2,e3,e4⟩:=hcap.get j x v h1 h2
  obtain ⟨m0,hn0,hl⟩:=I.loc;obtain ⟨u,r,l⟩:=hl i x v e1 e2 (by rcases e4 with e4 | e4;exact .inr (.inl e4);exact .inr (.inr e4));refine ⟨u,r,?_⟩;rcases l with ⟨l,_⟩ | ⟨k,c,e,z⟩
  ·have l':X.env.scope.names.lookup x=some fw.local:=l
   rcases e4 with e4 | e4<;>(rw [e4] at l';cases l')
  ·refine .inr ⟨?_,?_⟩
   ·show (cr scope ((y,s.heap.objs.size+1)::cl) s.heap.objs.size X.env).kindOf x=some .cell\/(cr scope ((y,s.heap.objs.size+1)::cl) s.heap.objs.size X.env).kindOf x=some .free
    rw [kindOf,e3];simp only [dQ]
    split
    ·exact .inl rfl
    ·exact .inr rfl
   ·obtain ⟨c',hc'⟩:=b x (XQ e3)
    have:=a x c' hc';rw [e] at this
    cases this
    obtain ⟨o,ho,hd⟩:=z;exact ⟨c,uc (ny e3) hc',o,keep _ _ ho,hd⟩
 ·rcases split h with ⟨_,e⟩ | ⟨_,e⟩
  ·rw [e];exact ⟨none,hce⟩
  ·obtain ⟨v,o,ho,hd⟩:=I.cell x c (a x c e)
   exact ⟨v,o,keep _ _ ho,hd⟩
 ·rcases split h with ⟨_,e⟩ | ⟨_,e⟩
  ·rw [e];exact I.hok.fresh (dm _)
  ·exact I.cL x c (a x c e)
 ·have hp':p∈X.pn++pins:=by simpa [dH] using hp
  obtain ⟨e,n,ne,nf,d⟩:=I.pin p hp';refine ⟨keep _ _ e,n,ς (Ψ e),λz=>?_,d⟩;rcases Φ.mp (I.cZ p.1 z) with q | q
  ·exact ne q
  ·exact nf q
 ·show (YB src σ).length=N'.length
  rw [<- hcap.length];simp [YB]
end
section
variable {prog:ζ} {w:ν} {A:ag} {R:Result->Δ->Prop} {s:Δ}
theorem YdT {elt tg iter:Expr} {ifs:List Expr} {scope:db} {pos:Pos} {it acc:Α} {env:Env} (J:Nat->Δ->Prop)
  (turn:∀ n s,J n s->Χ (Ω prog w) A (pyNext it) (λr s₁=>match r with
    | none=>R (.ok .next) s₁
    | some v=>Χ (Ω prog w) A (eR tg it v) (λ_ z₁=>Χ (Ω prog w) A (assign tg env v) (λ_ s₂ =>
      Χ (Ω prog w) A (forIn ifs true λc r=>if r=true then do let ok <- isTrue c env (eval c env);pure (c6 ok) else pure (c6 r))
       (λok s₃=>if ok=true then Χ (Ω prog w) A (eval elt env) (λx s₄=>Χ (Ω prog w) A (call (.builtin "list.append") [acc,x]) (λ_ s₅=>∃ m,m<n/\J m s₅) (λ_ _=>False) s₄) (λ_ _=>False) s₃
        else ∃ m,m<n/\J m s₃) (λ_ _=>False) s₂) (λ_ _=>False) z₁) (λ_ _=>False) s₁) (λ_ _=>False) s)
  (n:Nat) (h:J n s):fN (Ω prog w) A (.compLoop (.ListComp elt [⟨tg,iter,ifs,0⟩] scope pos) 0 it acc env) R s:=by
 refine codeAny_loop rfl J (λn s hJ=>?_) n h
 show Χ _ A (Sem.onRaise (compTurn (.ListComp elt [⟨tg,iter,ifs,0⟩] scope pos) 0 it acc env) (λx=>do noteFrame x env;theTreesLotGoes x)) _ _ s
 refine wpAny_noted ?_;rw [compTurn_list];have no:∀ {E:Α->Δ->Prop},∀ (e:Α) (s':Δ),False->E e s':=λ_ _ f=>f.elim
 refine Θ (wpAny_standAt (Θ (bb (turn n s hJ) (λr s₁ h₁=>?_) no)))
 cases r with
 | none=>exact Ν h₁
 | some v =>
  refine Θ (bb h₁ (λ_ z₁ hz=>?_) no);refine Θ (bb hz (λ_ s₂ h₂=>Θ (bb h₂ (λok s₃ h₃=>?_) no)) no)
  cases ok with
  | false=>exact Ν ⟨rfl,h₃⟩
  | true =>
   exact Θ (Θ (bb h₃ (λx s₄ h₄=>Θ (bb h₄ (λ_ s₅ h₅=>Ν (Ν ⟨rfl,h₅⟩)) no)) no))
end
section
variable {X:Cx}
theorem YgJ {yc:Str} {elt tg iter:Expr} {ifs:List Expr} {scope:db} {pos:Pos} {src:List (Option Nat)} {N':List Str} {wi:TI} {g:TG} {tt:TT} {te:TE} (hcap:dW X scope src N') (hc:X.calm=true) (hi:PI X tg iter wi)
  (hg:∀ cl C s₀ H₀ fp pn,PG (dH X scope N' yc cl C s₀ H₀ fp pn) tg g) (ht:∀ cl C s₀ H₀ fp pn,lO (dH X scope N' yc cl C s₀ H₀ fp pn) ifs tt) (he:∀ cl C s₀ H₀ fp pn,PE (dH X scope N' yc cl C s₀ H₀ fp pn) elt te)
  (hfree:∀ x,(x,ο)∈scope.names->X.env.scope.names.lookup x=some ci\/X.env.scope.names.lookup x=some ο)
  (hk:scope.kind = .function) (hcf:∀ n acc,ez n scope.names acc=(yc,n)::acc) (hyc:scope.names.lookup yc=some .cell) (hone:∀ z∈scope.names,z.2 = .cell->z.1=yc) (hnames:∀ y∈scope.names,y.2 = .local->scope.names.lookup y.1=some .local)
  (hs:∀ x,gy iter X.env x=pure x):PE X (.ListComp elt [⟨tg,iter,ifs,0⟩] scope pos) (c7 src wi g tt te):=by
 intro pins s σ H Q I h;have no:∀ {E:Α->Δ->Prop},∀ (e:Α) (s':Δ),False->E e s':=λ_ _ f=>f.elim
 obtain ⟨cl,hcl,a,b⟩:=Vz X.env scope λx hx=>I.ok.has x (hfree x hx)
 rw [eval_ListComp];refine wpAny_comprehension_free (use:=none) rfl hs hcl hk hnames (aA (hi pins s σ H _ I h) λv s1 h1=>aA h1 λitv s2 h2=>?_);obtain ⟨it,fp,tn,J,H2,e,I2,T,st2,f2,q⟩:=h2;subst e;have hD:H2 s2.heap.objs.size=none:=I2.hok.fresh (Κ _);obtain ⟨W,⟨m0,w0⟩,turn⟩:=q s2.heap.objs.size hD;have I3:=I2.rK (t':=s2.toks) (ys:=[]) (its:=[]) .nil (ι _);have wF:∀ b∈fp,b<s2.heap.objs.size:=λb hb=>by
  obtain ⟨o,e,_⟩:=T.obj _ _ st2 b hb;exact Ψ e
 refine bj ?_;generalize oN:({ s2 with heap:=s2.heap.push { cls := .type "list",dict:=none,data := .seq ([]:List Α).toArray } }:Δ)=s3;have iI:Inv X pins σ (upd H2 s2.heap.objs.size (.lst [])) s3:=oN▸I3
 have m6:∀ b o,s2.heap.get? b=some o->s3.heap.get? b=some o:=λb o e=>by rw [<- oN];exact Ρ _ e
 have st3:tn 0 s3.heap:=T.keep _ _ _ st2 λb _ o e=>m6 b o e
 have lQ:∀ b∈fp,b<s3.heap.objs.size:=λb hb=>by
  obtain ⟨o,e,_⟩:=T.obj _ _ st3 b hb;exact Ψ e
 have f3:∀ b∈fp,X0 X pins (upd H2 s2.heap.objs.size (.lst [])) b:=λb hb=>⟨by rw [Yh (ς (wF b hb))];exact (f2 b hb).1,(f2 b hb).2⟩
 generalize eD:s2.heap.objs.size=D at *;generalize R4:upd H2 D (.lst [])=H3 at *;refine Ybh hcf λh₁ fC hns₁ xq=>?_
 have I4:=YdS (N':=N') (src:=src) (tk:=s3.toks) hk hyc hone hcap a b iI f3 lQ rfl fC hns₁ xq
 -- the iterator's objects,through the block
 have stat:∀ {H':Hp},(∀ b∈fp,H' b=none)->∀ b∈fp,X0 (dH X scope N' yc cl s3.heap.objs.size s3 H3 fp (X.pn++pins)) [] H' b:=λhn b' hb=>by
  obtain ⟨f0,f1,fs,fe,f4,f5⟩:=f3 b' hb;refine ⟨hn b' hb,ς (lQ b' hb),λz=>?_,.inl hb,λx c h=>?_,λp hp=>f5 p (by simpa [dH] using hp)⟩
  rotate_left
  ·have h:b9 x ((yc,s3.heap.objs.size+1)::cl)=some c:=h
   rw [Υ] at h
   by_cases e:(x==yc)=true
   ·rw [e] at h
    have h:=Γ h;have hlt:=lQ b' hb;rw [<- h];exact λz=>absurd (z▸hlt) (iN.mpr (dm _))
   ·rw [ek.mpr e] at h
    exact f4 x c (a x c h)
  rcases Φ.mp (iI.cZ b' z) with e | e
  ·exact f1 e
  ·exact fs e
 -- behind the block
 have fin:∀ {H':Hp} {s':Δ} {σ':St} {cY:List (Addr×Obj)},Inv (dH X scope N' yc cl s3.heap.objs.size s3 H3 fp (X.pn++pins)) cY σ' H' s'->∀ h',br s3.heap.objs.size s'.heap h'->Inv X pins σ H' { s' with heap:=h' }:=λ{H' s' σ' cY} J' h' sb=>by
  have same:∀ b o,b≠s3.heap.objs.size->s'.heap.get? b=some o->h'.get? b=some o:=λb o hb e=>sb.extBut b o hb e
  have u:Un (frs X.stack) fp H3 H' s3.heap s'.heap:=J'.base;refine iI.call' (s':={ s' with heap:=h' }) (ch:=fp) J'.os ⟨λb o e n hb hx=>?_,λb o e n hb hx=>?_,u.free,λb o e hx=>?_,u.tups,u.dR,u.eU⟩ (λb o e=>?_) J'.bare λb hb=>?_
  ·exact same b o (ς (Ψ e)) (u.keep b o e n hb hx)
  ·obtain ⟨sl,z⟩:=u.slot b o e n hb hx
   exact ⟨sl,same b _ (ς (Ψ e)) z⟩
  ·obtain ⟨o',z⟩:=u.there b o e hx
   exact ⟨o',same b o' (ς (Ψ e)) z⟩
  ·have nC:∀ c v,H' c=some v->c≠s3.heap.objs.size:=λc v z q=>by
    have:=J'.free;rw [show (dH X scope N' yc cl s3.heap.objs.size s3 H3 fp (X.pn++pins)).env.locals=s3.heap.objs.size from rfl,<- q,z] at this
    cases this
   refine (J'.hok b o e).stay (λc v hc q=>same c v ?_ q) (λ_ q=>q) λ_ _ q=>q
   rcases hc with z | z
   ·rw [z];exact nC b o e
   ·exact nC c _ z
  ·obtain ⟨f0,f1,fs,fe,f4,f5⟩:=f3 b hb
   exact ⟨fe,f1,f4,f5⟩
 have loop:fN (Ω X.prog X.w) X.A (.compLoop (.ListComp elt [⟨tg,iter,ifs,0⟩] scope pos) 0 (.ref it) (.ref D) (cr scope ((yc,s3.heap.objs.size+1)::cl) s3.heap.objs.size X.env))
   (compPost (Ω X.prog X.w) X.A X.xe none (EP X pins σ Q) (.ref D) s3.heap.objs.size) { s3 with heap:=h₁ }:=by
  refine YdT (λn s'=>∃ i ys σ' H',Inv (dH X scope N' yc cl s3.heap.objs.size s3 H3 fp (X.pn++pins)) [] σ' H' s'/\tn i s'.heap/\(∀ b∈fp,H' b=none)/\W i n ys σ' H') ?_ m0 ⟨0,[],YB src σ,H3,I4,T.keep _ _ _ st3 λb _ o e=>fC b o e,λb hb=>(f3 b hb).1,w0⟩;rintro n s5 ⟨i,ys,iJ,H5,I5,iD,jO,w5⟩;obtain ⟨R5,stop | go⟩:=turn i n ys iJ H5 w5
  ·obtain ⟨stop,qn⟩:=stop
   refine aA (T.done (dH X scope N' yc cl s3.heap.objs.size s3 H3 fp (X.pn++pins)) rfl rfl rfl hc i [] s5 iJ H5 _ I5 (stat jO) iD stop) λr s6 ⟨hr,I6⟩=>?_
   subst hr;obtain ⟨m,hn,_⟩:=id I6.loc;exact ⟨m,hn,λh' sb=>⟨.ref D,H5,fin I6 h' sb,rfl,qn⟩⟩
  ·obtain ⟨go,N,hN,step⟩:=go
   refine aA (T.item (dH X scope N' yc cl s3.heap.objs.size s3 H3 fp (X.pn++pins)) rfl rfl rfl hc i [] s5 iJ H5 _ I5 (stat jO) iD go) λr s6 ⟨u,hr,h6⟩=>?_
   subst hr;refine aA h6 λ_ s7 ⟨x,H7,I7,r7,y7,jQ,wG⟩=>?_
   have wH:=I7.pinned (stat wG) (T.obj _ _ jQ);have again:∀ {s8:Δ} {dh:St} {H8:Hp} {ys':List V},Inv (dH X scope N' yc cl s3.heap.objs.size s3 H3 fp (X.pn++pins)) ([]++Vj fp s7.heap) dh H8 s8->(∃ m',m'<n/\W (i+1) m' ys' dh H8) ->
     ∃ m,m<n/\∃ i ys σ' H',Inv (dH X scope N' yc cl s3.heap.objs.size s3 H3 fp (X.pn++pins)) [] σ' H' s8/\tn i s8.heap/\(∀ b∈fp,H' b=none)/\W i m ys σ' H':=λ{s8 dh H8 ys'} I8 ⟨m',hm,w8⟩=>by
    refine ⟨m',hm,i+1,ys',dh,H8,I8.cX,T.keep _ _ _ jQ λb hb o e=>(I8.pin (b,o) (ψ _ (ψ _ (XH hb e)))).1,λb hb=>?_,w8⟩;obtain ⟨o,e,d⟩:=T.obj _ _ jQ b hb;exact (I8.pin (b,o) (ψ _ (ψ _ (XH hb e)))).2.1
   refine aA (hg cl _ s3 H3 fp _ _ s7 iJ H7 x u _ wH r7 (step x H7 y7)) λ_ s8 ⟨dh,H8,I8,q8⟩=>?_
   refine aA (ht cl _ s3 H3 fp _ _ s8 dh H8 _ I8 q8) λok s9 ⟨H9,I9,q9⟩=>?_
   cases ok with
   | false=>exact again I9 (hN _ _ _ q9)
   | true =>
    rw [if_pos rfl];refine aA (he cl _ s3 H3 fp _ _ s9 dh H9 _ I9 q9) λy bO ⟨yv,oO,wJ,r10,wI⟩=>?_
    obtain ⟨jR,hlen,w10⟩:=wI;refine aA (Xm (X:=dH X scope N' yc cl s3.heap.objs.size s3 H3 fp (X.pn++pins)) _ bO dh oO (.ref D) [yv] (.ref D) [y] (λ_ H'=>H'=upd oO D (.lst (ys++[yv]))) wJ rfl (.cons r10 .nil) ⟨ys,jR,hlen,rfl⟩) λ_ R6 ⟨_,R7,wK,_,wL⟩=>?_
    subst wL;exact again wK (hN _ _ _ w10)
 exact codeAny_compStart_list loop (T.self _ 0 _ _ _ (T.keep _ _ _ st3 λb _ o e=>fC b o e) loop)
end
end L2
namespace PySem.W
open PySem PyProof.Rows
abbrev excFs (a0:Α):Array Value:=#[a0,.none,.none,.none,.bool false,.none]
end PySem.W
namespace L2
open PySem PySem.Spec PyProof.Rows
open PySem.W (excFs)
def del (H:Hp) (a:Addr):Hp:=λb=>if b=a then none else H b
end L2
namespace L2
open PySem
mutual
inductive DL (H:Hp):V->Ζ->List Addr->Prop
 | non:DL H .non .none []
 | bl (b:Bool):DL H (.bl b) (.bool b) []
 | int (i:Int):DL H (.int i) (.int i) []
 | str (x:Str) (h:bc x=true):DL H (.str x) (.str x) []
 | lst {a:Addr} {vs:List V} {ds:List Ζ} {L:List Addr}:H a=some (.lst vs)->vs.length<=10000->bH H vs ds L->DL H (.ref a) (.list ds) (a::L)
 | tup {a:Addr} {vs:List V} {ds:List Ζ} {L:List Addr}:H a=some (.tup vs)->vs.length<=10000->bH H vs ds L->DL H (.ref a) (.tuple ds) L
inductive bH (H:Hp):List V->List Ζ->List Addr->Prop
 | nil:bH H [] [] []
 | cons {v:V} {d:Ζ} {L:List Addr} {vs:List V} {ds:List Ζ} {L':List Addr}:DL H v d L->bH H vs ds L'->bH H (v::vs) (d::ds) (L++L')
end
mutual
theorem DL.eG {H H':Hp} (t:wZ H H'):∀ {v:V} {d:Ζ} {L:List Addr},DL H v d L->(∀ a∈L,∀ vs,H a=some (.lst vs)->H' a=some (.lst vs))->DL H' v d L
 | _,_,_,.non,_ => .non
 | _,_,_,.bl b,_ => .bl b
 | _,_,_,.int i,_ => .int i
 | _,_,_,.str x h,_ => .str x h
 | _,_,_,.lst h hn hs,e => .lst (e _ (.head _) _ h) hn (hs.eG t λa ha=>e a (.tail _ ha))
 | _,_,_,.tup h hn hs,e => .tup (t _ _ h) hn (hs.eG t e)
theorem bH.eG {H H':Hp} (t:wZ H H'):∀ {vs:List V} {ds:List Ζ} {L:List Addr},bH H vs ds L->(∀ a∈L,∀ vs,H a=some (.lst vs)->H' a=some (.lst vs))->bH H' vs ds L
 | _,_,_,.nil,_ => .nil
 | _,_,_,.cons h hs,e => .cons (h.eG t λa ha=>e a (fF _ ha)) (hs.eG t λa ha=>e a (ψ _ ha))
end
theorem DL.keep {H H':Hp} {v:V} {d:Ζ} {L:List Addr} (h:DL H v d L) (s:Yj H H'):DL H' v d L:=h.eG s.tps λa _ vs e=>s _ _ e
mutual
theorem DL.mem {H:Hp}:∀ {v:V} {d:Ζ} {L:List Addr},DL H v d L->∀ a∈L,∃ vs,H a=some (.lst vs)/\vs.length<=10000
 | _,_,_,.lst (a:=b) h hn hs,a,ha=>by
  rcases Φ.mp ha with e | ha
  ·subst e;exact ⟨_,h,hn⟩
  ·exact hs.mem a ha
 | _,_,_,.tup h hn hs,a,ha=>hs.mem a ha
theorem bH.mem {H:Hp}:∀ {vs:List V} {ds:List Ζ} {L:List Addr},bH H vs ds L->∀ a∈L,∃ vs,H a=some (.lst vs)/\vs.length<=10000
 | _,_,_,.cons h hs,a,ha=>by
  rcases bg.mp ha with ha | ha
  ·exact h.mem a ha
  ·exact hs.mem a ha
end
theorem bH.length {H:Hp}:∀ {vs:List V} {ds:List Ζ} {L:List Addr},bH H vs ds L->vs.length=ds.length
 | _,_,_,.nil=>rfl
 | _,_,_,.cons _ hs=>congrArg (·+1) hs.length
theorem bH.at {H:Hp}:∀ {vs:List V} {ds:List Ζ} {L:List Addr} {i:Nat} {v:V},bH H vs ds L->vs[i]?=some v->∃ d L',ds[i]?=some d/\DL H v d L'
 | _,_,_,0,v,.cons a _,h=>by
  have:_=v:=Γ h;subst this;exact ⟨_,_,rfl,a⟩
 | _,_,_,i+1,v,.cons _ b,h=>b.at (i:=i) h
theorem bH.append {H:Hp} {vs':List V} {ds':List Ζ} {L':List Addr}:∀ {vs:List V} {ds:List Ζ} {L:List Addr},bH H vs ds L->bH H vs' ds' L'->bH H (vs++vs') (ds++ds') (L++L')
 | _,_,_,.nil,h=>h
 | _,_,_,.cons a b,h=>by rw [bu];exact .cons a (b.append h)
structure OwD (H0 H:Hp) (v:V) (d:Ζ) (L:List Addr):Prop where
 vl:DL H v d L
 nd:L.Nodup
 new:∀ a∈L,H0 a=none
def Gn:Ζ->String
 | .none=>"NoneType"
 | .bool _=>"bool"
 | .int _=>"int"
 | .str _=>"str"
 | .list _=>"list"
 | .tuple _=>"tuple"
 | .dict _=>"dict"
theorem ud {K:Ι} {H:Hp} {v:V} {d:Ζ} {L:List Addr} (h:DL H v d L):cA K H v (.type (Gn d)):=by
 cases h with
 | non=>exact .non
 | bl b=>exact .bl b
 | int i=>exact .int i
 | str x h=>exact .str _
 | lst h=>exact .lst h
 | tup h=>exact .tup h
def Kt (H H':Hp):Prop:=∀ a o,(∀ ps,o ≠ .jm ps)->H a=some o->H' a=some o
theorem Gp {H H':Hp} (s:Yj H H'):Kt H H':=λc o _ e=>s _ _ e
theorem Kt.lst {H H':Hp} (h:Kt H H') {a:Addr} {xs:List V} (e:H a=some (.lst xs)):H' a=some (.lst xs):=h a _ (by intro ps z;cases z) e
theorem Kt.tup {H H':Hp} (h:Kt H H') {a:Addr} {xs:List V} (e:H a=some (.tup xs)):H' a=some (.tup xs):=h a _ (by intro ps z;cases z) e
theorem DL.kt {H H':Hp} {v:V} {d:Ζ} {L:List Addr} (h:DL H v d L) (s:Kt H H'):DL H' v d L:=h.eG (λa vs e=>s.tup e) λa _ vs e=>s.lst e
theorem bH.kt {H H':Hp} {v:List V} {d:List Ζ} {L:List Addr} (h:bH H v d L) (s:Kt H H'):bH H' v d L:=h.eG (λa vs e=>s.tup e) λa _ vs e=>s.lst e
def DV (H:Hp) (v:V) (d:Ζ):Prop:=∃ L,DL H v d L
def bw (H:Hp) (vs:List V) (ds:List Ζ):Prop:=∃ L,bH H vs ds L
theorem DV.kt {H H':Hp} {v:V} {d:Ζ} (h:DV H v d) (s:Kt H H'):DV H' v d:=by obtain ⟨L,h⟩:=h;exact ⟨L,h.kt s⟩
theorem DV.keep {H H':Hp} {v:V} {d:Ζ} (h:DV H v d) (s:Yj H H'):DV H' v d:=h.kt (Gp s)
theorem bw.kt {H H':Hp} {v:List V} {d:List Ζ} (h:bw H v d) (s:Kt H H'):bw H' v d:=by obtain ⟨L,h⟩:=h;exact ⟨L,h.kt s⟩
theorem bw.keep {H H':Hp} {v:List V} {d:List Ζ} (h:bw H v d) (s:Yj H H'):bw H' v d:=h.kt (Gp s)
theorem bw.nil {H:Hp}:bw H [] []:=⟨[],.nil⟩
theorem bw.cons {H:Hp} {v:V} {d:Ζ} {vs:List V} {ds:List Ζ} (h:DV H v d) (hs:bw H vs ds):bw H (v::vs) (d::ds):=by
 obtain ⟨L,h⟩:=h;obtain ⟨L',hs⟩:=hs;exact ⟨_,.cons h hs⟩
theorem bw.length {H:Hp} {vs:List V} {ds:List Ζ} (h:bw H vs ds):vs.length=ds.length:=by obtain ⟨L,h⟩:=h;exact h.length
theorem bw.at {H:Hp} {vs:List V} {ds:List Ζ} {i:Nat} {v:V} (h:bw H vs ds) (e:vs[i]?=some v):∃ d,ds[i]?=some d/\DV H v d:=by
 obtain ⟨L,h⟩:=h;obtain ⟨d,L',e1,e2⟩:=h.at e;exact ⟨d,e1,_,e2⟩
theorem bw.append {H:Hp} {vs vs':List V} {ds ds':List Ζ} (h:bw H vs ds) (h':bw H vs' ds'):bw H (vs++vs') (ds++ds'):=by
 obtain ⟨L,h⟩:=h;obtain ⟨L',h'⟩:=h';exact ⟨_,h.append h'⟩
theorem DV.lst {H:Hp} {a:Addr} {vs:List V} {ds:List Ζ} (h:H a=some (.lst vs)) (hn:vs.length<=10000) (hs:bw H vs ds):DV H (.ref a) (.list ds):=by obtain ⟨L,hs⟩:=hs;exact ⟨_,.lst h hn hs⟩
theorem DV.tup {H:Hp} {a:Addr} {vs:List V} {ds:List Ζ} (h:H a=some (.tup vs)) (hn:vs.length<=10000) (hs:bw H vs ds):DV H (.ref a) (.tuple ds):=by obtain ⟨L,hs⟩:=hs;exact ⟨_,.tup h hn hs⟩
theorem DV.rQ {H:Hp} {v:V} {ds:List Ζ} (h:DV H v (.list ds)):∃ a vs,v = .ref a/\H a=some (.lst vs)/\vs.length<=10000/\bw H vs ds:=by
 obtain ⟨L,h⟩:=h
 cases h with
 | lst a b c=>exact ⟨_,_,rfl,a,b,_,c⟩
theorem DV.rR {H:Hp} {v:V} {ds:List Ζ} (h:DV H v (.tuple ds)):∃ a vs,v = .ref a/\H a=some (.tup vs)/\vs.length<=10000/\bw H vs ds:=by
 obtain ⟨L,h⟩:=h
 cases h with
 | tup a b c=>exact ⟨_,_,rfl,a,b,_,c⟩
theorem DV.xr {H:Hp} {v:V} {i:Int} (h:DV H v (.int i)):v = .int i:=by obtain ⟨L,h⟩:=h;cases h;rfl
theorem DV.Gq {H:Hp} {v:V} {b:Bool} (h:DV H v (.bool b)):v = .bl b:=by obtain ⟨L,h⟩:=h;cases h;rfl
theorem DV.xu {H:Hp} {v:V} {x:Str} (h:DV H v (.str x)):v = .str x/\bc x=true:=by obtain ⟨L,h⟩:=h;cases h;exact ⟨rfl,‹_›⟩
theorem DV.ty {K:Ι} {H:Hp} {v:V} {d:Ζ} (h:DV H v d):cA K H v (.type (Gn d)):=by obtain ⟨L,h⟩:=h;exact ud h
end L2
namespace HT
open PySem PySem.Spec PyProof.Rows
variable {prog:ζ} {w:ν} {A:ag} {E:Α->Δ->Prop} {s:Δ}
theorem YeL (items:Array Α):((η items.size).filterMap λ(m:Nat)=>items[(((items.size:Int) - 1)+(m:Int)*(-1)).toNat]?).toArray=items.toList.reverse.toArray:=by
 have key:∀ (n:Nat),n<=items.size->((η n).filterMap λ(m:Nat)=>items[(((items.size:Int) - 1)+(m:Int)*(-1)).toNat]?)=items.toList.reverse.take n:=by
  intro n
  induction n with
  | zero=>intro _;simp
  | succ n ih =>
   intro hn;rw [cK,fv,ih (by omega)];have e:(((items.size:Int) - 1)+(n:Int)*(-1)).toNat=items.size - 1 - n:=by omega
   have hx:items.toList.reverse[n]?=some (items[items.size - 1 - n]'(by omega)):=by
    rw [List.getElem?_reverse (by simp;omega)];simp
   rw [L2.Y4 hx,f7,e];have hlt:items.size - 1 - n<items.size:=by omega
   simp [hlt]
 rw [key items.size (Κ _),af (by simp)]
theorem gH {t sl:Addr} {items:Array Α} {tk:Tok} {Q:Α->Δ->Prop} (ht:IsTup s.heap t items) (hs:s.heap.IsSliceOf sl .none .none (.int (-1) tk))
  (h:Q (.ref s.heap.objs.size) { s with heap:=s.heap.push { cls := .type "tuple",data := .seq items.toList.reverse.toArray } })
  (hsz:items.size<=sizeLine):Χ (Ω prog w) A (eP (.ref t) (.ref sl)) Q E s:=by
 have dN:sizeOk (.seq items.toList.reverse.toArray):=by
  show items.toList.reverse.toArray.size<=sizeLine
  rw [ξ,bz,f8];exact hsz
 obtain ⟨os,hos,hcs,hds⟩:=id hs;have hTs:s.TypeIs (.ref sl) "slice":=⟨os,hos,hcs⟩;unfold eP
 try with_reducible refine iE ?_
 first | refine Θ (Ν ?_) | skip
 refine Θ (wpAny_sequenceKey ht.typeIs (by decide) ?_);refine Θ (wpAny_callSpecial?_slot (name:=dq "__getitem__") ht.typeIs cq
  (fE cq ht.typeIs entry_tuple_getitem ?_ (args_tuple_getitem _ _)))
 show Χ _ _ (Builtin.Tuple.tupleItemsOf (.ref t) >>= _) _ _ s
 refine Θ (tupleItemsOf_ ht ?_);refine Θ (iS hTs ?_);rw [if_pos (by decide)];have ap:∀ {A:ag} {E:Α->Δ->Prop} {Q:Int×Int×Nat->Δ->Prop},Q ((items.size:Int) - 1,-1,items.size) s->Χ (Ω prog w) A (eh (.ref sl) (pure (items.size:Int))) Q E s:=by
  intro A E Q h;unfold eh Builtin.Slice.sliceFields;refine Θ (Θ (gz hos hds (x := .none) rfl (Θ (gz hos hds (x := .none) rfl (Θ (gz hos hds (x := .int (-1) tk) rfl (Ν ?_)))))));refine Θ (slicePart_int ?_)
  show Χ _ _ (if ((-1:Int)==0)=true then _ else _) _ _ s
  rw [if_neg (by decide)];refine Θ (ip (Θ (ip (Θ (Ν ?_)))))
  show Χ _ _ (match bP none none (-1) (items.size:Int) with | (lo,hi)=>pure (lo,(-1:Int),a6 lo hi (-1))) _ _ s
  have e1:bP none none (-1) (items.size:Int)=((items.size:Int) - 1,-1):=by simp [bP]
  rw [e1];have e2:a6 ((items.size:Int) - 1) (-1) (-1)=items.size:=by
   unfold a6;simp only [show ¬ ((-1:Int)>0) by decide,if_false]
   split
   ·have:((items.size:Int) - 1 - -1 - 1)=(items.size:Int) - 1:=by omega
    rw [this,show (- -1:Int)=1 from rfl,gg];omega
   ·omega
  show Χ _ _ (pure ((items.size:Int) - 1,(-1:Int),a6 ((items.size:Int) - 1) (-1) (-1))) _ _ s
  rw [e2];exact Ν h
 refine Θ (ap ?_)
 show Χ _ _ (if (((items.size:Int) - 1)==0&&(-1:Int)==1&&items.size==items.size)=true then _ else _) _ _ s
 rw [if_neg (by simp),YeL]
 first
  | exact Θ (m:=ba _) (bj (Ν ⟨_,rfl,Ν h⟩) dN)
  | exact Θ (m:=ba _) (bj (Θ (Ν (Ν ⟨_,rfl,Ν h⟩))) dN)
  | exact Θ (Θ (m:=ba _) (bj (Ν (Ν ⟨_,rfl,Ν h⟩)) dN))
  | exact Θ (Θ (m:=ba _) (bj (Ν ⟨_,rfl,Ν h⟩) dN))
end HT
namespace L2
open PySem PySem.Spec PyProof.Rows
def VD (z:Str):Str:=⟨z.cps.toList.reverse.toArray⟩
theorem YdU (n:Nat):bo none none (-1) n=(η n).map λ(k:Nat)=>n - 1 - k:=by
 unfold bo;simp;unfold iL;simp only [show ¬ ((-1:Int)>0) by decide,if_false];have hc:(if (n:Int) - 1 > -1 then ((n:Int) - 1 - -1 - -1 - 1) / - -1 else 0).toNat=n:=by
  split
  ·have:((n:Int) - 1 - -1 - -1 - 1)=n:=by omega
   rw [this,show (- -1:Int)=1 from rfl,gg];omega
  ·omega
 rw [hc]
 apply a5
 intro k hk;have:k<n:=a7.mp hk;omega
theorem YdV (z:Str):(⟨(((η z.length).map λ(k:Nat)=>z.length - 1 - k).filterMap (z.cps[·]?)).toArray⟩:Str)=VD z:=by
 have hl:z.length=z.cps.size:=rfl;rw [gs];have key:∀ (n:Nat),n<=z.cps.size->(List.filterMap ((λx=>z.cps[x]?) ∘ λk=>z.length - 1 - k) (η n))=z.cps.toList.reverse.take n:=by
  intro n
  induction n with
  | zero=>intro _;simp
  | succ n ih =>
   intro hn;rw [cK,fv,ih (by omega)];have hx:z.cps.toList.reverse[n]?=some (z.cps[z.cps.size - 1 - n]'(by omega)):=by
    rw [List.getElem?_reverse (by simp;omega)];simp
   rw [Y4 hx];have hlt:z.cps.size - 1 - n<z.cps.size:=by omega
   simp [hl,hlt]
 rw [hl] at key ⊢
 rw [key z.cps.size (Κ _),af (by simp)];rfl
theorem Ybi (z:Str):(VD z).length=z.length:=by simp [VD,jn]
section
variable {X:Cx} {e st:Expr} {te ts:TE} {pos p2:Pos} {K:Ι}
def CP (K:Ι) (te ts:TE):TE:=λσ H Q=>te σ H λx H1=>ts σ H1 λy H2=>y = .int (-1)/\((∃ a xs,x = .ref a/\ao K H2 a xs/\∀ p,H2 p=none->Q (.ref p) (upd H2 p (.lst xs.reverse))) \/
 (∃ a xs,x = .ref a/\aH K H2 a xs/\∀ p,H2 p=none->Q (.ref p) (upd H2 p (.tup xs.reverse)))\/∃ z,x = .str z/\z.length<=sizeLine/\Q (.str (VD z)) H2)
theorem Yf5 (he:PE X e te) (hs:PE X st ts) (hK:X.K=K):PE X (.Subscript e (.Slice none none (some st) p2) pos) (CP K te ts):=by
 subst hK;intro pins s σ H Q I h;refine Subscript_ (aA (he pins s σ H _ I h) λv s1 ⟨x,H1,I1,r1,q1⟩=>?_);refine wpAny_Slice ?_;rw [evalPart_none];refine Ν (Ν ?_);rw [evalPart_some];refine aA (hs pins s1 σ H1 _ I1 q1) λu s2 ⟨y,H2,I2,r2,q2⟩=>?_
 obtain ⟨rfl,q2⟩:=q2;obtain ⟨t,rfl⟩:=r2;have I4:Inv X pins σ H2 { s2 with heap:=s2.heap.push { cls := .type "slice",data := .fields #[.none,.none,.int (-1) t] } }:=I2.kept (t':=s2.toks) λb ob q=>Ρ _ q
 rcases q2 with ⟨a,xs,rfl,hx,q⟩ | ⟨a,xs,rfl,hx,q⟩ | ⟨z,rfl,hz,q⟩
 ·cases r1
  obtain ⟨its,r,ht,hz⟩:=I4.list hx;have hlen:=r.length;have hg:=wpAny_getItem_list_slice (prog:=X.prog) (w:=X.w) (A:=X.A) (E:=X.xe) (Q:=EP X pins σ Q) ht.isList (Heap.IsSliceOf.new ..) .none .none (.int (-1) t) (by decide) (by
   rw [Tn];refine ⟨.ref _,_,I4.laid (t':=_) (o := .lst xs.reverse) (λb ob q=>Ρ _ q) (Κ _) ?_,rfl,q _ (I4.hok.fresh (Κ _))⟩;exact ⟨by rw [bz];exact hz,_,0,r.reverse,ah _ rfl⟩) (by rw [ξ]<;>omega)
  exact tail_any (ops:=[.ref a,.ref s2.heap.objs.size]) ht.isList.typeIs slot_list_getitem.lookup hg (by with_unfolding_all rfl)
 ·cases r1
  obtain ⟨its,r,ht,hz⟩:=I4.tuple hx;have hlen:=r.length;have hg:=HT.gH (prog:=X.prog) (w:=X.w) (A:=X.A) (E:=X.xe) (Q:=EP X pins σ Q) ht (Heap.IsSliceOf.new ..) (by
   refine ⟨.ref _,_,I4.laid (t':=_) (o := .tup xs.reverse) (λb ob q=>Ρ _ q) (Κ _) ?_,rfl,q _ (I4.hok.fresh (Κ _))⟩;exact ⟨by rw [bz];exact hz,_,r.reverse,IsTup.new _ _⟩) (by rw [ξ];omega)
  exact tail_any (ops:=[.ref a,.ref s2.heap.objs.size]) ht.typeIs PyProof.Rows.slot_tuple_getitem.lookup hg (by with_unfolding_all rfl)
 ·obtain ⟨tz,rfl⟩:=r1
  have hg:Χ (Ω X.prog X.w) X.A (eP (.str z tz) (.ref s2.heap.objs.size)) (EP X pins σ Q) X.xe { s2 with heap:=s2.heap.push { cls := .type "slice",data := .fields #[.none,.none,.int (-1) t] } }:=by
   refine wpAny_getItem_str_slice (l:=none) (u:=none) (st:=some (-1,t)) ⟨_,ah _ rfl,rfl,rfl⟩ rfl ?_;have e:(if (((some ((-1:Int),t)).map (·.1)).getD 1==1&&(slicePicked z none none (some (-1,t))).length==z.length)=true then z else ⟨((slicePicked z none none (some (-1,t))).filterMap (z.cps[·]?)).toArray⟩)=VD z:=by
    rw [if_neg (by simp)]
    show (⟨((bo none none (-1) z.length).filterMap (z.cps[·]?)).toArray⟩:Str)=_
    rw [YdU];exact YdV z
   refine post_val_or_str ⟨by rw [e,Ybi];exact hz,λt' k=>?_⟩;rw [e];exact ⟨.str (VD z),H2,I4.tok k,⟨t',rfl⟩,q⟩
  exact tail_any (ops:=[.str z tz,.ref s2.heap.objs.size]) (typeIs_str _ _ _) F.slot_str_getitem.lookup hg (by with_unfolding_all rfl)
end
end L2
namespace L2
open PySem
noncomputable def sm (a b:Ζ):Bool:=@decide (a=b) (Classical.propDecidable _)
inductive Tm where
 | num (i:Int) | here | part (t:Tm) (k:Int) | count (t:Tm) | sum (t:Tm) | not (t:Tm) | turned (t:Tm)
 | same (a b:Tm) | both (a b:Tm) | when (a b c:Tm) | each (a b:Tm) | joined (a b:Tm) | plus (a b:Tm) | times (a b:Tm) | less (a b:Tm)
abbrev ug:=Except Str Ζ
def Qz:Ζ->Option (List Ζ)
 | .list xs=>some xs
 | .tuple xs=>some xs
 | _=>none
def Gs:List Ζ->Option Int
 | []=>some 0
 | .int i::r=>(Gs r).map (i+·)
 | _::_=>none
def take (mk:Str) (s:ug) (f:Ζ->Option α):Except Str α:=match s with
 | .error m => .error m
 | .ok d=>match f d with
  | some a => .ok a
  | none => .error mk
def Uq:Ζ->Option Int
 | .int i=>some i
 | _=>none
def V6:Ζ->Option Bool
 | .bool b=>some b
 | _=>none
def lenOf:Ζ->Option Nat
 | .list xs=>some xs.length
 | .tuple xs=>some xs.length
 | .str x=>some x.length
 | _=>none
def YgK:Ζ->Option Ζ
 | .list xs=>some (.list xs.reverse)
 | .tuple xs=>some (.tuple xs.reverse)
 | .str x=>some (.str (VD x))
 | _=>none
def Gu (mk:Str) (f:Ζ->ug):List Ζ->ug
 | [] => .ok (.bool true)
 | x::xs=>match take mk (f x) V6 with
  | .error m => .error m
  | .ok true=>Gu mk f xs
  | .ok false => .ok (.bool false)
noncomputable def tell:Tm->Ζ->ug
 | .num i,_ => .ok (.int i)
 | .here,d => .ok d
 | .part t k,d=>take "part" (tell t d) λx=>(Qz x).bind λxs=>if 0<=k then xs[k.toNat]? else none
 | .count t,d=>(take "count" (tell t d) lenOf).map λ(n:Nat)=>PyData.int (n:Int)
 | .sum t,d=>(take "sum" (tell t d) λx=>(Qz x).bind Gs).map .int
 | .not t,d=>(take "not" (tell t d) V6).map λb => .bool (!b)
 | .turned t,d=>take "turned" (tell t d) YgK
 | .same a b,d=>match tell a d with
  | .error m => .error m
  | .ok x=>(tell b d).map λy => .bool (sm x y)
 | .both a b,d=>match take "both" (tell a d) V6 with
  | .error m => .error m
  | .ok false => .ok (.bool false)
  | .ok true=>(take "both" (tell b d) V6).map .bool
 | .when a b c,d=>match take "when" (tell a d) V6 with
  | .error m => .error m
  | .ok true=>tell b d
  | .ok false=>tell c d
 | .each a b,d=>match take "each" (tell a d) Qz with
  | .error m => .error m
  | .ok xs=>Gu "each" (λx=>tell b x) xs
 | .joined a b,d=>match tell a d with
  | .error m => .error m
  | .ok (.list xs)=>take "joined" (tell b d) λy=>match y with
   | .list ys=>some (.list (xs++ys))
   | _=>none
  | .ok (.str x)=>take "joined" (tell b d) λy=>match y with
   | .str z=>some (.str (x++z))
   | _=>none
  | .ok _ => .error "joined"
 | .plus a b,d=>match take "plus" (tell a d) Uq with
  | .error m => .error m
  | .ok i=>(take "plus" (tell b d) Uq).map λj => .int (i+j)
 | .times a b,d=>match take "times" (tell a d) Uq with
  | .error m => .error m
  | .ok i=>(take "times" (tell b d) Uq).map λj => .int (i*j)
 | .less a b,d=>match take "less" (tell a d) Uq with
  | .error m => .error m
  | .ok i=>(take "less" (tell b d) Uq).map λj => .bool (decide (i<j))
structure IB (n:Nat) (i:Int):Prop where
 h:i.natAbs<2^(200*2^n)
mutual
def hb:Ζ->Prop
 | .list xs=>xs.length<=64/\hbs xs
 | .tuple xs=>xs.length<=64/\hbs xs
 | .str x=>x.length<=64
 | .int i=>IB 0 i
 | .none=>True
 | .bool _=>True
 | .dict _=>False
def hbs:List Ζ->Prop
 | []=>True
 | d::ds=>hb d/\hbs ds
end
theorem W0 {d:Ζ}:∀ {ds:List Ζ},d∈ds->d.depth<=δ ds
 | e::ds,h=>by
  simp only [δ];rcases Φ.mp h with rfl | h
  ·omega
  ·have:=W0 h
   omega
end L2
namespace L2
open PySem PySem.Spec PyProof.Rows
mutual
def cnt:Ζ->Nat
 | .list xs=>aX xs+1
 | .tuple xs=>aX xs
 | .dict _=>0
 | .none=>0
 | .bool _=>0
 | .int _=>0
 | .str _=>0
def aX:List Ζ->Nat
 | []=>0
 | d::ds=>cnt d+aX ds
end
mutual
theorem DL.cnt {H:Hp}:∀ {v:V} {d:Ζ} {L:List Addr},DL H v d L->L.length=L2.cnt d
 | _,_,_,.non=>rfl
 | _,_,_,.bl b=>rfl
 | _,_,_,.int i=>rfl
 | _,_,_,.str x h=>rfl
 | _,_,_,.lst h hn hs=>by rw [χ,hs.aX];rfl
 | _,_,_,.tup h hn hs=>by rw [hs.aX];rfl
theorem bH.aX {H:Hp}:∀ {vs:List V} {ds:List Ζ} {L:List Addr},bH H vs ds L->L.length=L2.aX ds
 | _,_,_,.nil=>rfl
 | _,_,_,.cons h hs=>by rw [Μ,h.cnt,hs.aX];rfl
end
def cb:Nat->Nat
 | 0=>0
 | n+1=>1+4*cb n
def sb:Nat->Nat
 | 0=>60
 | n+1=>4*sb n+11
end L2
set_option maxHeartbeats 4000000
namespace PySem.W
open PySem PySem.Calls PyProof.Rows
section sort
variable {f:Nat->Nat->Bool} {n:Nat}
structure Nz (f:Nat->Nat->Bool) (n:Nat):Prop where
 asy:∀ i j,i<n->j<n->f i j=true->f j i=false
 tr:∀ i j k,i<n->j<n->k<n->f j i=false->f k j=false->f k i=false
variable (O:Nz f n) (h0:0<n)
include O h0
end sort
end PySem.W
set_option maxHeartbeats 4000000
set_option maxHeartbeats 4000000
set_option maxHeartbeats 4000000
set_option maxHeartbeats 4000000
set_option maxHeartbeats 4000000
set_option maxHeartbeats 4000000
set_option maxHeartbeats 4000000
namespace L2
open PySem PySem.Spec PyProof.Rows PySem.W
abbrev gr (q:Int×List Ζ):PyData := .tuple (.int q.1::q.2)
end L2
namespace L2
open PySem PySem.Spec PyProof.Rows
def Gx.iK (g:Gx) (x qual:Str) (st:Stmt) (ps:List Str) (aV:List V):Prop:=∃ f fd T ds,Ny g.K x qual st f fd T/\Yt aV ds/\Xf g.K fd ps ds/\Xf g.K fd ps []/\g.mg x=some (.ref f)
theorem YeM {K:Ι} {h:Heap} {mg:Str->Option Α} {f T:Addr} {x:Str} {st:Stmt} {oc kV dc pm cd ct:Α} {od an:Option Addr} {sl:Array (Option Α)} {o:Obj} {items:Array Α} {n:Nat} (X:K.In h) (G:h.Ns aE mg) (ps:List Str) (aV:List V) (nb:Nat)
  (a:W.nsIn K aE x=some (some (.ref f))) (l:K.lookup f=some ⟨oc,od,.func (dv x x (Y5 st) (YZ st) (Yk st) (.ref T) kV dc pm an cd ct),sl⟩) (c:iq K cd x=true) (k:ff K (.ref f)=true)
  (t:K.lookup T=some o) (s:o.data = .seq items n) (v:Yt aV items.toList) (e:nb+items.toList.length=ps.length)
  (b:∀ (us:List Α),us.length=nb->∃ kk,gS (dv x x (Y5 st) (YZ st) (Yk st) (.ref T) kV dc pm an cd ct) ⟨us,[]⟩=seqItems? (.ref T) >>= kk/\kk (some items)=pure (ps.zip (us++items.toList)))
  (b0:∀ (us:List Α),us.length=ps.length->∃ kk,gS (dv x x (Y5 st) (YZ st) (Yk st) (.ref T) kV dc pm an cd ct) ⟨us,[]⟩=seqItems? (.ref T) >>= kk/\kk (some items)=pure (ps.zip us)) :
  ∀ P w base,(Gx.mk P w K mg base).iK x x st ps aV:=λP w base =>
 ⟨f,_,T,items.toList,⟨⟨oc,od,kV,dc,pm,an,cd,ct,sl,rfl,l,c⟩,k⟩,v,λs' us hK hl=>by
  have hn:us.length=nb:=by rw [Μ] at hl;omega
  obtain ⟨kk,h1,h2⟩:=b us hn;exact W.binds_K hK rfl t s h1 h2,λs' us hK hl=>by
  rw [a4] at hl ⊢
  obtain ⟨kk,h1,h2⟩:=b0 us hl;exact W.binds_K hK rfl t s h1 h2,W.mg_of X G a⟩
end L2
set_option maxHeartbeats 4000000
set_option maxHeartbeats 4000000
namespace L2
open PySem PySem.Spec PyProof.Rows PySem.W
section
variable {X:Cx}
def Gv (K:Ι):R2:=λx y H Q=>∃ a b xs ys,x = .ref a/\y = .ref b/\aH K H a xs/\aH K H b ys/\xs.length+ys.length<=sizeLine/\(xs=[]->Q (.ref b) H)/\(xs≠[]->ys=[]->Q (.ref a) H)/\(xs≠[]->ys≠[]->∀ p,H p=none->Q (.ref p) (upd H p (.tup (xs++ys))))
theorem YeN:bG X (cw .Add) (Gv X.K):=by
 intro pins s σ H x y v u Q I rx ry h;obtain ⟨a,b,xs,ys,rfl,rfl,ha,hb,hz,q0,q1,q2⟩:=h;by_cases hx:xs=[]
 ·cases rx
  cases ry
  obtain ⟨its,r1,p1,_⟩:=I.tuple ha;obtain ⟨its2,r2,p2,_⟩:=I.tuple hb;have hi:its=[]:=r1.gw.mpr hx;obtain ⟨⟨cls,dd,data,sl⟩,ho,hc,n,hd⟩:=id p1;obtain ⟨⟨cls2,dd2,data2,sl2⟩,ho2,hc2,n2,hd2⟩:=id p2;simp only at hc hd hc2 hd2;subst hc hd hc2 hd2;exact concat_meets ⟨_,ho,rfl⟩ ⟨_,ho2,rfl⟩ noFill_tuple_add seq_tuple_add F.slot_tuple_add F.entry_tuple_add (F.args_tuple_add_2 _ _)
   (tuple_addW0 a b its.toArray its2.toArray n n2 dd dd2 sl sl2 (by simp [hi])) ⟨ho,ho2,.ref b,H,I,rfl,q0 hx⟩
 ·exact Rv pins s σ H _ _ v u Q I rx ry ⟨a,b,xs,ys,rfl,rfl,ha,hb,hx,hz,q1 hx,q2 hx⟩
end
end L2
namespace L2
open PySem PySem.Spec PyProof.Rows
noncomputable def eH (xs:Dx) (d:Ζ) (p:Addr):Dx:=xs.map λx=>if x.1=d then (x.1,x.2.1,p) else x
noncomputable def bh (xs:Dx) (d:Ζ) (b p:Addr):Dx:=match aJ xs d with
 | none=>xs++[(d,b,p)]
 | some _=>eH xs d p
theorem Yf6 (xs:Dx) (d:Ζ) (p:Addr):(eH xs d p).map (·.1)=xs.map (·.1):=by
 unfold eH;rw [bn];refine a5 λx _=>?_
 show (if x.1=d then (x.1,x.2.1,p) else x).1=x.1
 split<;>rfl
theorem Yf7 (xs:Dx) (d e:Ζ) (p q:Addr) (h:aJ xs d=some q):aJ (eH xs d p) e=if e=d then some p else aJ xs e:=by
 induction xs with
 | nil=>cases h
 | cons x xs ih =>
  unfold aJ eH at *;simp only [aa,aT] at *;by_cases c:x.1=d
  ·rw [if_pos c]
   by_cases c2:e=d
   ·subst c2;simp [c]
   ·have c3:¬ x.1=e:=λz=>c2 (z.symm.trans c)
    have c3:¬ d=e:=λz=>c2 z.symm
    simp only [c,c3,decide_false,if_neg c2];clear ih h
    induction xs with
    | nil=>rfl
    | cons y ys ih2 =>
     simp only [aa,aT];by_cases c4:y.1=d
     ·simp only [c4,if_pos,c3,decide_false];exact ih2
     ·rw [if_neg c4]
      by_cases c5:y.1=e
      ·simp [c5]
      ·simp only [c5,decide_false];exact ih2
  ·rw [if_neg c]
   simp only [c,decide_false] at h;by_cases c2:e=d
   ·subst c2
    simp only [c,decide_false];rw [ih h,if_pos rfl,if_pos trivial]
   ·rw [if_neg c2]
    by_cases c5:x.1=e
    ·simp [c5]
    ·simp only [c5,decide_false]
     have:=ih h;rw [if_neg c2] at this
     exact this
theorem Q0 (xs:Dx) (d e:Ζ) (b p:Addr):aJ (bh xs d b p) e=if e=d then some p else aJ xs e:=by
 unfold bh
 split
 ·rename_i h;exact WO _ _ _ _ _ h
 ·rename_i h;exact Yf7 _ _ _ _ _ h
theorem YeO (xs:Dx) (d:Ζ) (b p:Addr):(bh xs d b p).length<=xs.length+1:=by
 unfold bh
 split
 ·rw [Μ];exact Κ _
 ·unfold eH;rw [Β];omega
theorem YeP {xs:Dx} {d:Ζ} {b p:Addr} {x:Ζ×Addr×Addr} (h:x∈bh xs d b p):x∈xs\/(x.1=d/\x.2.2=p):=by
 unfold bh at h
 split at h
 ·rcases bg.mp h with h | h
  ·exact .inl h
  ·rw [Ξ.mp h];exact .inr ⟨rfl,rfl⟩
 ·unfold eH at h
  obtain ⟨y,hy,rfl⟩:=ar.mp h
  split
  ·rename_i c;exact .inr ⟨c,rfl⟩
  ·exact .inl hy
section
variable {X:Cx} {pins:List (Addr×Obj)} {σ:St} {H:Hp} {s:Δ} {a b:Addr} {d:Ζ} {xs:Dx} {A:ag} {E:Α->Δ->Prop}
theorem YdY {p q:Addr} {Q:Unit->Δ->Prop} (hu:A.units+9<gc) (I:Inv X pins σ H s) (g:bx X.prog X.w X.K H a xs) (k:DK X.K H b d) (l:aJ xs d=some q) (h:∀ s',Inv X pins σ (upd H a (bT X.prog X.w a (eH xs d p))) s'->Q () s') :
  Χ (Ω X.prog X.w) A (setItem (.ref a) (.ref b) (.ref p)) Q E s:=by
 obtain ⟨hd,dd⟩:=Qe I g;have hz:(xs.map XC).length<=sizeLine:=by rw [Β];exact Ο g.len (by decide)
 refine wpAny_setItem_heap (hsz:=hz) (show A.in1.units+8<gc from by have:A.in1.units=A.units+1:=rfl;omega) (Qd I k) dd λh' oV hs=>h _ ?_
 have e:=WB xs d;rw [l] at e
 obtain ⟨z,hz,_⟩:=ε.mp e;rw [storedH_old hz] at oV
 obtain ⟨q,es,ep,hq,h2,h3,h4,_,h5⟩:=oV;refine Fj I (by rw [g.at_];exact dk) hs ⟨q,hq⟩ (xg hd ⟨q,es,ep,hq,h2,h3,?_⟩);rw [h4]
 congr 1
 rw [bn,eH,bn];refine a5 λx _=>?_
 show putAt d (.ref p) (XC x)=XC (if x.1=d then (x.1,x.2.1,p) else x)
 by_cases c:x.1=d
 ·rw [if_pos c];simp [putAt,XC,c]
 ·rw [if_neg c];simp [putAt,XC,c]
end
theorem bx.bh {P:ζ} {w:ν} {K:Ι} {H:Hp} {a b p:Addr} {d:Ζ} {xs:Dx} (h:bx P w K H a xs) (k:DK K H b d) (hl:xs.length<1000):bx P w K (upd H a (bT P w a (L2.bh xs d b p))) a (L2.bh xs d b p):=by
 cases e:aJ xs d with
 | none =>
  have e2:L2.bh xs d b p=xs++[(d,b,p)]:=by unfold L2.bh;rw [e]
  rw [e2];exact h.put k e hl
 | some q =>
  have e2:L2.bh xs d b p=eH xs d p:=by unfold L2.bh;rw [e]
  rw [e2];have t:Wf H (upd H a (bT P w a (eH xs d p))):=Wp (λb o hb e=>by rw [Yh hb];exact e) h.at_ (by intro xs z;cases z) (by intro o v z;cases z);refine ⟨Yc,by rw [Yf6];exact h.nd,by unfold eH;rw [Β];exact h.len,λx hx=>?_⟩;unfold eH at hx;obtain ⟨y,hy,rfl⟩:=ar.mp hx;have:=(h.keys y hy).cB t
  split<;>exact this
def Gw (P:ζ) (w:ν) (K:Ι) (td ty tv:TE):TS:=λD σ H=>tv σ H λv H1=>td σ H1 λx H2=>ty σ H2 λy H3=>∃ a b xs d p,v = .ref p/\x = .ref a/\y = .ref b/\bx P w K H3 a xs/\DK K H3 b d/\xs.length<1000/\D.nx σ (upd H3 a (bT P w a (bh xs d b p)))
section
variable {X:Cx} {o i e value:Expr} {pos pos' tpos:Pos} {td ty tv:TE} {k:Nat}
theorem YeQ (hr:aQ k X.A) (ho:PE X o td) (hi:PE X i ty) (hv:PE X value tv) (hs:swapsWith value (some (.Subscript o i pos')) pos.line X.env=pure false) :
  PS X (.Assign [.Subscript o i pos'] value pos) (Gw X.prog X.w X.K td ty tv):=by
 intro pins s σ H D I h;refine wpAny_Assign_Subscript (aA (hv pins s σ H _ I h) λr s1 ⟨v,H1,I1,rv,q1⟩=>aA (ho pins s1 σ H1 _ I1 q1) λu s2 ⟨x,H2,I2,rx,q2⟩=>aA (hi pins s2 σ H2 _ I2 q2) λiv s3 ⟨y,H3,I3,ry,a,b,xs,d,p,ev,ex,ey,g,kk,hl,q3⟩=>?_) hs;subst ex ey ev;obtain rfl:u=ω a:=rx;obtain rfl:iv=ω b:=ry;obtain rfl:r=ω p:=rv
 cases el:aJ xs d with
 | none =>
  have e2:bh xs d b p=xs++[(d,b,p)]:=by unfold bh;rw [el]
  rw [e2] at q3
  exact Qf (V5 hr) I3 g kk el hl λs4 I4=>⟨σ,_,I4,q3⟩
 | some q =>
  have e2:bh xs d b p=eH xs d p:=by unfold bh;rw [el]
  rw [e2] at q3
  exact YdY (V5 hr) I3 g kk el λs4 I4=>⟨σ,_,I4,q3⟩
end
inductive iu (L:List (Addr×Sp)) (H:Hp) (a:Addr) (m:Str) (Q:Sp->Prop):Prop
 | mk (C:Addr) (sp:Sp) (hm:(C,sp)∈L) (dx:Addr) (fs:List (Str×V)) (h:H a=some (.ins C dx fs)) (l:fs.lookup m=none) (q:Q sp)
theorem iu.map {L:List (Addr×Sp)} {H:Hp} {a:Addr} {m:Str} {Q Q':Sp->Prop} (h:iu L H a m Q) (f:∀ sp,Q sp->Q' sp):iu L H a m Q':=by
 obtain ⟨C,sp,hm,dx,fs,h1,h2,h3⟩:=h;exact ⟨C,sp,hm,dx,fs,h1,h2,f sp h3⟩
theorem WC {s u:TS} {D:Ends} {σ:St} {H:Hp} (h:∀ R:St->Hp->Prop,(∀ σ' H',u D σ' H'->R σ' H')->s { D with nx:=R } σ H):XS s u D σ H:=h _ λ_ _ h=>h
def xG (L:List (Addr×Sp)) (m:Str) (ta:TE) (t:TA):TE:=λσ H Q=>ta σ H λx H1=>kR x λa=>iu L H1 a m λsp=>t σ H1 λvs H2=>sp (.ref a::vs) H2 Q E0
def Gx.dw (g:Gx) (j:Nat) (m:Str) (ps:List Str) (L:List (Addr×Sp)):Prop:=∀ C sp,(C,sp)∈L->g.Me j C m ps sp/\Cls g.K C
section
variable {X:Cx} {g:Gx} {j k:Nat} {C:Addr} {m:Str} {ps:List Str} {sp:Sp} {L:List (Addr×Sp)} {o e:Expr} {es:List Expr} {ta:TE} {t:TA} {apos pos:Pos}
theorem YO:g.dw j m ps []:=λ_ _ h=>by cases h
theorem Yb (F:g.Me j C m ps sp) (c:Cls g.K C) (h:g.dw j m ps L):g.dw j m ps ((C,sp)::L):=λC' sp' hm=>by
 rcases Φ.mp hm with e | hm
 ·cases e;exact ⟨F,c⟩
 ·exact h C' sp' hm
theorem XE {pl:Sem Bool} (F:g.dw j m ps L) (hr:aQ k X.A) (ho:PE X o ta) (ha:PA X (e::es) t) (hj:j<=k:=by omega) (hX:X.gx=g:=by rfl)
  (hst:θ (e::es) X.env=(false,eval e X.env)::θ es X.env:=by rfl) (hpl:(bS pos (θ es X.env)).any (·.1)=false:=by rfl)
  (ht:eval (.Call (.Attribute o m apos) (e::es) [] pos) X.env=(do
   let ov <- eval o X.env
   standAt apos.atName
   let (f,first) <- holding [ov] (iA ov m pl)
   callWith pos f first (bS pos (θ (e::es) X.env)) (iP pos (gE [] X.env))):=by rfl):PE X (.Call (.Attribute o m apos) (e::es) [] pos) (xG L m ta t):=by
 subst hX;intro pins s σ H Q I h;refine PySem.W.methodCall_KW (pl:=pl) (aA (ho pins s σ H _ I h) λu s1 ⟨x,H1,I1,rx,q⟩=>?_) ht
 replace q:=Ve.mp q
 obtain ⟨a,ex,C,sp,hL,dx,fs,ea,l,q⟩:=q;subst ex;obtain rfl:u=ω a:=rx;obtain ⟨⟨f,fd,F,b,hm⟩,c⟩:=F C sp hL;refine UX I1 ea c hm l ?_;refine fb (first:=[.ref a]) (h₀:=X.base) I.ok.mod.jG hm.kp (aA (ha pos pins s1 σ H1 _ I1 q) λus s2 ⟨vs,H2,I2,r,q2⟩=>⟨I2.bF,?_⟩) hst hpl;exact UZ (us := .ref a::us) (vs := .ref a::vs) F (hr.mono hj) b .nil Vy I2 (.cons rfl r) (by rw [a4];exact q2)
end
def Gx.gO (g:Gx) (k:Nat) (x:Str) (ps:List Str) (aV:List V) (sp:Sp):Prop:=∃ f fd ds,bM g.P g.w g.K g.mg g.base fY k f fd ps sp/\Yt aV ds/\Xf g.K fd ps ds/\Xf g.K fd ps []/\ff g.K (.ref f)=true/\g.mg x=some (.ref f)
section
variable {g:Gx} {x qual:Str} {st:Stmt} {N ps:List Str} {aV:List V} {sp:Sp} {j k:Nat}
theorem Gx.iK.fnE (R:g.iK x qual st ps aV) (S:ak N ps (Yk st)) (len:∀ vs H Q E,sp vs H Q E->vs.length=ps.length) (b:V2 g k N qual st sp):g.gO (k+1) x ps aV sp:=by
 obtain ⟨f,fd,T,ds,F,hv,bd,b0,hm⟩:=R;refine ⟨f,fd,ds,?_,hv,bd,b0,F.kp,hm⟩;obtain ⟨oc,od,kV,doc,pm,an,cdv,ct,osl,rfl,lk,hcd⟩:=F.ex;refine En lk hcd S len λA outer s H vs Q E hr hsp=>?_
 obtain ⟨t,h,q⟩:=b f cdv A outer s H vs Q E hr hsp;exact ⟨t,h.jL,q⟩
theorem Gx.gO.mono (F:g.gO j x ps aV sp) (h:j<=k):g.gO k x ps aV sp:=by
 obtain ⟨f,fd,ds,F,r⟩:=F;exact ⟨f,fd,ds,F.mono h,r⟩
theorem Gx.gO.full (F:g.gO k x ps aV sp):g.Fn k x ps sp:=by
 obtain ⟨f,fd,ds,F,hv,b,b0,kp,hm⟩:=F;exact ⟨f,fd,F,b0,kp,hm⟩
theorem Gx.gO.d (F:g.gO k x ps aV sp):g.Gi k x ps aV sp:=by
 obtain ⟨f,fd,ds,F,hv,b,b0,kp,hm⟩:=F;exact ⟨f,fd,ds,F,hv,b,kp,hm⟩
end
open Sem (wp)
theorem QA:typeLookup (.type "list") "keys"=pure none:=by rw [typeLookup_type,builtinLookup_eq_fast];kernel_rfl
set_option maxHeartbeats 3200000 in
theorem V7 {prog:ζ} {w:ν} {A:ag} {E:Α->Δ->Prop} {s:Δ} {a:Addr} {xs:Array Α} {k:Nat} {sl:Array (Option Α)} {name:Str} {Q:Option Α->Δ->Prop}
  (hx:s.heap.get? a=some { cls := .type "list",dict:=none,data := .seq xs k,slots:=sl }) (hmiss:typeLookup (.type "list") name=pure none) (hname:(["__module__","__name__","__qualname__","__doc__","__annotations__"]:List Str).contains name=false) (hA:A.handled=none)
  (h:∀ h' tk e,Heap.NewExcOf s.heap h' e "AttributeError"->Q none { s with heap:=h',toks:=tk }) (hsz:name.length+100<=sizeLine:=by size_fits) :
  Χ (Ω prog w) A (getAttr? (.ref a) name) Q E s:=by
 obtain ⟨hp,g,d,tk,os⟩:=s;have hT:∀ tk',(⟨hp,g,d,tk',os⟩:Δ).TypeIs (.ref a) "list":=λ_=>⟨_,hx,rfl⟩
 have f1:=sub_AttributeError;have f3:=F.slot_list_getattribute.lookup;have f4:=F.slot_list_getattribute.bind (.ref a);have f5:=am_list_getattr_none;unfold getAttr? getAttrBy? getAttrBy
 repeat (any_goals (first | assumption | exact hT _ | ((with_reducible show Χ _ _ (call (Value.builtin "list.__getattribute__") _ _) _ _ _);refine call_meets F.slot_list_getattribute (hT _) am_entry_list_getattribute (F.args_list_getattribute_2 _ _) (meets_getattribute_miss_list a xs k sl name _ hmiss hname hsz) ⟨hx,hA,λh' tk' e hx'=>?_⟩) | wp_step))
 obtain ⟨t',u',he⟩:=hx'.there
 show Χ _ _ (getattributeRaised _ _ _ _ _ _ _) _ _ _
 unfold getattributeRaised
 repeat (any_goals (first | assumption | wp_step))
 exact h _ _ _ hx'.of
theorem XR:plainId "dict.update.loop"=true:=by decide +kernel
theorem Va:entryFor table "dict.update.loop"=some Builtin.«dict.update.loop»:=entryFor_of_tree (by kernel_rfl)
section
variable {prog:ζ} {w:ν} {A:ag} {E:Α->Δ->Prop} {s:Δ}
set_option maxHeartbeats 3200000 in
theorem YaH {l T:Addr} {x:Str} {u:Tok} {v:Α} {Q:Α->Δ->Prop} (hh:A.handled=none) (hl:PlainL s.heap l #[.ref T]) (hT:IsTup s.heap T #[.str x u,v])
  (h:∀ (h':Heap) (tk:Nat),h'.DictOf (YX prog w) s.heap.objs.size [(.inr x,v)]->(∀ b o,s.heap.get? b=some o->h'.get? b=some o)->Q (.ref s.heap.objs.size) { s with heap:=h',toks:=tk }) :
  Χ (Ω prog w) A (call (.type "dict") [.ref l]) Q E s:=by
 obtain ⟨⟨lc,ld,lda,lsl⟩,n1,hl,e1,e2,e3⟩:=hl;simp only at e1 e2 e3;subst e1 e2 e3;refine callType_codes (Q₁:=λobj s₁=>obj = .ref s.heap.objs.size/\s₁={ s with heap:=s.heap.push { cls := .type "dict",data := .dict #[] } }) PySem.F.kt_called_dict (PySem.F.kt_typeCall_dict_1 _) PySem.F.entry_dict_init (kt_code_dict_new _ ⟨rfl,rfl⟩) ?_;rintro obj s₁ ⟨rfl,rfl⟩;have hnew:(s.heap.push { cls := .type "dict",data := .dict #[] }).DictOf (YX prog w) s.heap.objs.size []:=Heap.DictOf.new s.heap;have hl1:=Ρ (h:=s.heap) { cls := .type "dict",data := .dict #[] } hl;refine ⟨hnew.typeIs,PySem.F.args_dict_init_2 _ _,?_⟩;unfold Builtin.«dict.__init__»;refine Θ ?_;unfold Builtin.Dict.selfAndRest;refine Θ (wpAny_notOrdered_dict hnew.typeIs ?_)
 show Χ _ _ (pure (s.heap.objs.size,[ω l])) _ _ _
 refine Ν ?_
 show Χ _ _ (Builtin.Dict.updateFrom "dict.__init__" s.heap.objs.size (.ref l) [] .none) _ _ _
 unfold Builtin.Dict.updateFrom;refine Θ (iS ⟨_,hl1,rfl⟩ ?_);rw [if_pos (by decide)];refine Θ (V7 hl1 QA (by decide +kernel) (by simp [hh]) (λh2 tk2 e ne=>?_) (by decide +kernel));rw [if_pos (show (none:Option Α).isNone=true from rfl)];have hl2:=ne.keeps _ _ hl1;have hl2':h2.IsList l #[.ref T]:=⟨_,hl2,rfl,_,rfl⟩;refine Θ (wpAny_rule ?_);refine Θ (wpAny_pyIter_list hl2' ?_);refine Ν ⟨plainId_quiet XR _,?_⟩;have lI:l<h2.objs.size:=Ψ hl2;have h3:A.in1.in1.handled=none:=by simp [hh]
 have W:=((Walks.list h3 h2.objs.size l (ς lI) #[ω T]).toS:WalksS prog w A.in1.in1 _ _ _ _ _ _ _);refine codeAny_builtin Va ?_;rw [Around.under_plainId XR _]
 show Χ _ _ (pyNext (.ref h2.objs.size) >>= _) _ _ _
 refine Θ (W.item 0 _ _ _ (Nat.zero_lt_succ _) ⟨⟨_,ah _ rfl,rfl,rfl⟩,hl2'.push _⟩ λv0 s0 hP hst hm=>?_);obtain rfl:v0 = .ref T:=by simpa using hP.symm
 obtain ⟨h4,g4,d4,tk4,os4⟩:=s0;have eg:g4=s.gens:=hm.gens;have ed:d4=s.drawn:=hm.drawn;have eo:os4=s.os:=hm.os;subst eg ed eo;have keep:∀ b o,s.heap.get? b=some o->h4.get? b=some o:=λb o e=>by
  have e2:=ne.keeps _ _ (Ρ _ e);exact hm.heap b o (by simp only [Φ,ac,or_false];exact ς (Ψ e2)) (Ρ _ e2)
 have lR:h4.DictOf (YX prog w) s.heap.objs.size []:=by
  obtain ⟨o,es,ep,ho,YI⟩:=hnew;have e2:=ne.keeps _ _ ho;exact ⟨o,es,ep,hm.heap _ _ (by simp only [Φ,ac,or_false];exact ς (Ψ e2)) (Ρ _ e2),YI⟩
 obtain ⟨oT,hoT,cT,nT,dT⟩:=hT;have Gy:=keep _ _ hoT
 show Χ _ _ (holding [ω T] _ >>= _) _ _ _
 refine Θ (iE (Θ (wpAny_tryCatch ?_)));unfold Builtin.Dict.pairItems;refine Θ (iS ⟨_,Gy,cT⟩ ?_);rw [if_pos (by decide)];refine Θ (?_:Χ _ _ (seqItems? (.ref T)) _ _ _);unfold seqItems?;refine Θ (wpAny_load Gy ?_);rw [dT];refine Ν (Ν ?_);have hkey:(YX prog w).is (.inr x) (.str x u)=true:=Uz prog w x u
 show Χ _ _ (holding [hW x u,v] (dictSet s.heap.objs.size (.str x u) v)) _ _ _
 refine iE (wpAny_dictSet_pairs (knd:=YX prog w) hkey lR (λh5 oW Gz=>?_) (ι _));have nI:s.heap.objs.size≠h2.objs.size:=ς (Ψ (ne.keeps _ _ (ah s.heap (o:={ cls := .type "dict",data := .dict #[] }) rfl)));refine Ν ⟨plainId_quiet XR _,?_⟩;refine codeAny_builtin Va ?_;rw [Around.under_plainId XR _]
 show Χ _ _ (pyNext (.ref h2.objs.size) >>= _) _ _ _
 refine Θ (W.done _ _ _ (W.frame 1 _ h5 _ hst (dm _) λb hb o e=>?_) λs6 oX=>?_)
 ·rw [Gz.2 b λz=>?_]
  ·exact e
  ·skip
   simp only [Φ,ac,or_false] at hb;rcases hb with hb | hb
   ·exact nI (z.symm.trans hb)
   ·exact absurd (Ψ hl) (by rw [<- hb,z];exact ce _)
 ·obtain ⟨h6,g6,d6,tk6,os6⟩:=s6
  have eg:g6=s.gens:=oX.gens;have ed:d6=s.drawn:=oX.drawn;have eo:os6=s.os:=oX.os;subst eg ed eo;refine Θ (Ν (Ν ⟨rfl,h h6 tk6 ?_ λb o e=>?_⟩))
  ·obtain ⟨o,es,ep,ho,YI⟩:=oW
   exact ⟨o,es,ep,oX.heap _ _ (by simp only [Φ,ac,or_false];exact nI) ho,YI⟩
  ·have e1:=keep b o e
   refine oX.heap b o (by simp only [Φ,ac,or_false];exact λz=>absurd (Ψ (ne.keeps _ _ (Ρ _ e))) (by rw [z];exact ce _)) ?_;rw [Gz.2 b λz=>absurd (Ψ e) (by rw [z];exact ce _)];exact e1
end
section
variable {X:Cx}
theorem QB (hc:X.calm=true:=by rfl):XI X (.type "dict") (λxs H Q=>∃ (l T:Addr) (x:Str) (v:V),xs=[.ref l]/\ao X.K H l [.ref T]/\aH X.K H T [.str x,v]/\∀ a,H a=none->Q (.ref a) (upd H a (.dK [(.inr x,v)]))):=by
 intro pins s σ H xs us Q I r h;obtain ⟨l,T,x,v,rfl,hS,hT,q⟩:=h;obtain ⟨u,rfl,ru⟩:=Wx r;obtain rfl:u=ω l:=ru;obtain ⟨its,r',pl,hz⟩:=I.list hS;obtain ⟨jts,t',pt,hz2⟩:=I.tuple hT;obtain ⟨v1,rfl,rv1⟩:=Wx r';obtain rfl:v1=ω T:=rv1;obtain ⟨w1,w2,rfl,k1,k2⟩:=tG t';obtain ⟨tk,rfl⟩:=k1;refine YaH (I.ok.hd hc) pl pt λh' tk' hD hk=>?_
 refine ⟨.ref s.heap.objs.size,_,I.laid (o := .dK [(.inr x,v)]) (λb o e=>hk b o e) (Κ _) ?_,rfl,q _ (I.hok.fresh (Κ _))⟩;exact ⟨show 1<=sizeLine by decide,beq_eq_false_iff_ne.mpr (am (ς I.big)),_,.cons ⟨rfl,k2⟩ .nil,hD⟩
theorem Yd0 {K:Ι} (hK:X.K=K:=by rfl):bG X (cw .Add) (Gv K):=by
 subst hK;exact YeN
end
end L2
set_option maxHeartbeats 8000000
namespace KW
open PySem L2
def top (i:Nat):Stmt:=PySem.Challenge.pw_countgen_k40_all_values.main.body.getD i (.Pass ⟨0,0,0,0⟩)
abbrev xH:Stmt:=top 7
theorem GC:ak ["shape","kind"] ["shape"] (Yk xH):=⟨rfl,rfl,rfl,by decide +kernel,rfl,by decide +kernel,by decide +kernel⟩
abbrev xJ:Stmt:=top 9
theorem GD:ak ["book","name","pair"] ["book","name"] (Yk xJ):=⟨rfl,rfl,rfl,by decide +kernel,rfl,by decide +kernel,by decide +kernel⟩
abbrev xK:Stmt:=top 18
theorem YcR:ak ["blocks"] ["blocks"] (Yk xK):=⟨rfl,rfl,rfl,by decide +kernel,rfl,by decide +kernel,by decide +kernel⟩
abbrev xM:Stmt:=top 19
theorem lU:ak ["blocks","number","place","left","rest"] ["blocks","number"] (Yk xM):=⟨rfl,rfl,rfl,by decide +kernel,rfl,by decide +kernel,by decide +kernel⟩
abbrev xO:Stmt:=top 24
theorem Z5i:ak ["size"] ["size"] (Yk xO):=⟨rfl,rfl,rfl,by decide +kernel,rfl,by decide +kernel,by decide +kernel⟩
abbrev xP:Stmt:=top 35
theorem YaI:ak ["book","shape"] ["book","shape"] (Yk xP):=⟨rfl,rfl,rfl,by decide +kernel,rfl,by decide +kernel,by decide +kernel⟩
abbrev xQ:Stmt:=top 37
theorem Z51:ak ["count","most"] ["count","most"] (Yk xQ):=⟨rfl,rfl,rfl,by decide +kernel,rfl,by decide +kernel,by decide +kernel⟩
abbrev xR:Stmt:=top 38
theorem Ybj:ak ["maker","size"] ["maker","size"] (Yk xR):=⟨rfl,rfl,rfl,by decide +kernel,rfl,by decide +kernel,by decide +kernel⟩
abbrev xT:Stmt:=top 39
theorem GF:ak ["book","shape","size","most","maker"] ["book","shape","size","most"] (Yk xT):=⟨rfl,rfl,rfl,by decide +kernel,rfl,by decide +kernel,by decide +kernel⟩
abbrev xU:Stmt:=top 42
theorem Z66:ak ["_law_script","_law_k"] ["_law_script","_law_k"] (Yk xU):=⟨rfl,rfl,rfl,by decide +kernel,rfl,by decide +kernel,by decide +kernel⟩
abbrev xV:Stmt:=top 43
theorem iM:ak ["_law_cell","_law_k","_law_letters","_law_size_here","_law_at","_law_found","_law_j","_law_number"] ["_law_cell","_law_k"] (Yk xV):=⟨rfl,rfl,rfl,by decide +kernel,rfl,by decide +kernel,by decide +kernel⟩
abbrev xW:Stmt:=top 44
theorem jU:ak ["_law_signs","_law_size_here","_law_found","_law_k","_law_more","_law_value"] ["_law_signs","_law_size_here"] (Yk xW):=⟨rfl,rfl,rfl,by decide +kernel,rfl,by decide +kernel,by decide +kernel⟩
abbrev xX:Stmt:=top 45
theorem uh:ak ["_law_low","_law_high","_law_size_here","_law_first","_law_k"] ["_law_low","_law_high","_law_size_here"] (Yk xX):=⟨rfl,rfl,rfl,by decide +kernel,rfl,by decide +kernel,by decide +kernel⟩
abbrev xY:Stmt:=top 46
theorem lV:ak ["_law_book","_law_parts","_law_size_here","_law_found","_law_first","_law_rests","_law_thing"] ["_law_book","_law_parts","_law_size_here"] (Yk xY):=⟨rfl,rfl,rfl,by decide +kernel,rfl,by decide +kernel,by decide +kernel⟩
abbrev xZ:Stmt:=top 47
theorem lW:ak ["_law_book","_law_part","_law_size_here","_law_found","_law_first","_law_rests","_law_thing"] ["_law_book","_law_part","_law_size_here"] (Yk xZ):=⟨rfl,rfl,rfl,by decide +kernel,rfl,by decide +kernel,by decide +kernel⟩
abbrev yd:Stmt:=top 48
theorem lX:ak ["_law_book","_law_shape_here","_law_size_here","_law_things","_law_found","_law_mark","_law_part"] ["_law_book","_law_shape_here","_law_size_here"] (Yk yd):=⟨rfl,rfl,rfl,by decide +kernel,rfl,by decide +kernel,by decide +kernel⟩
abbrev yg:Stmt:=top 49
theorem oY:ak ["_law_cell","_law_low","_law_letters","_law_start","_law_signs"] ["_law_cell"] (Yk yg):=⟨rfl,rfl,rfl,by decide +kernel,rfl,by decide +kernel,by decide +kernel⟩
abbrev yh:Stmt:=top 50
theorem oZ:ak ["_law_script","_law_deep","_law_at","_law_name_here","_law_cell","_law_way","_law_one","_law_other"] ["_law_script","_law_deep","_law_at","_law_name_here"] (Yk yh):=⟨rfl,rfl,rfl,by decide +kernel,rfl,by decide +kernel,by decide +kernel⟩
abbrev yj:Stmt:=top 51
theorem yq:ak ["_law_book","_law_shape_here","_law_want","_law_most","_law_size_here"] ["_law_book","_law_shape_here","_law_want","_law_most"] (Yk yj):=⟨rfl,rfl,rfl,by decide +kernel,rfl,by decide +kernel,by decide +kernel⟩
abbrev yr:Stmt:=top 52
theorem Ybk:ak ["_law_one","_law_other"] ["_law_one","_law_other"] (Yk yr):=⟨rfl,rfl,rfl,by decide +kernel,rfl,by decide +kernel,by decide +kernel⟩
abbrev yt:Stmt:=top 53
theorem Z5H:ak ["_law_one","_law_other"] ["_law_one","_law_other"] (Yk yt):=⟨rfl,rfl,rfl,by decide +kernel,rfl,by decide +kernel,by decide +kernel⟩
abbrev yu:Stmt:=top 54
theorem yw:ak ["_law_value","_law_found","_law_thing"] ["_law_value"] (Yk yu):=⟨rfl,rfl,rfl,by decide +kernel,rfl,by decide +kernel,by decide +kernel⟩
abbrev yC:Stmt:=top 55
theorem um:ak ["_law_value","_law_some","_law_sizes","_law_one"] ["_law_value"] (Yk yC):=⟨rfl,rfl,rfl,by decide +kernel,rfl,by decide +kernel,by decide +kernel⟩
abbrev uo:Stmt:=top 56
theorem X1:ak ["_law_script","_law_name_here","_law_book","_law_shape_here","_law_size_here","_law_due","_law_most","_law_handed","_law_found"] ["_law_script"] (Yk uo):=⟨rfl,rfl,rfl,by decide +kernel,rfl,by decide +kernel,by decide +kernel⟩
abbrev yD:Stmt:=Yx (top 34) 0
theorem Z54:ak ["self","book"] ["self","book"] (Yk yD):=⟨rfl,rfl,rfl,by decide +kernel,rfl,by decide +kernel,by decide +kernel⟩
abbrev yE:Stmt:=Yx (top 34) 1
theorem Z55:ak ["self","shape"] ["self","shape"] (Yk yE):=⟨rfl,rfl,rfl,by decide +kernel,rfl,by decide +kernel,by decide +kernel⟩
abbrev yF:Stmt:=Yx (top 34) 2
theorem GJ:ak ["self","shape","maker"] ["self","shape"] (Yk yF):=⟨rfl,rfl,rfl,by decide +kernel,rfl,by decide +kernel,by decide +kernel⟩
abbrev yG:Stmt:=Yx (top 34) 3
theorem yH:ak ["self","shape","kind","parts"] ["self","shape"] (Yk yG):=⟨rfl,rfl,rfl,by decide +kernel,rfl,by decide +kernel,by decide +kernel⟩
abbrev yI:Stmt:=Yx (top 25) 0
theorem Z3u:ak ["self","low","high"] ["self","low","high"] (Yk yI):=⟨rfl,rfl,rfl,by decide +kernel,rfl,by decide +kernel,by decide +kernel⟩
abbrev yJ:Stmt:=Yx (top 25) 1
theorem GK:ak ["self","size","greatest"] ["self","size"] (Yk yJ):=⟨rfl,rfl,rfl,by decide +kernel,rfl,by decide +kernel,by decide +kernel⟩
abbrev yK:Stmt:=Yx (top 25) 2
theorem Z3v:ak ["self","size","number"] ["self","size","number"] (Yk yK):=⟨rfl,rfl,rfl,by decide +kernel,rfl,by decide +kernel,by decide +kernel⟩
abbrev yL:Stmt:=Yx (top 26) 0
theorem Z3J:ak ["self","signs"] ["self","signs"] (Yk yL):=⟨rfl,rfl,rfl,by decide +kernel,rfl,by decide +kernel,by decide +kernel⟩
abbrev yM:Stmt:=Yx (top 26) 1
theorem Z3K:ak ["self","size"] ["self","size"] (Yk yM):=⟨rfl,rfl,rfl,by decide +kernel,rfl,by decide +kernel,by decide +kernel⟩
abbrev yN:Stmt:=Yx (top 26) 2
theorem o9:ak ["self","size","number","found","left","each"] ["self","size","number"] (Yk yN):=⟨rfl,rfl,rfl,by decide +kernel,rfl,by decide +kernel,by decide +kernel⟩
abbrev yO:Stmt:=Yx (top 20) 0
theorem Z4b:ak ["self","parts"] ["self","parts"] (Yk yO):=⟨rfl,rfl,rfl,by decide +kernel,rfl,by decide +kernel,by decide +kernel⟩
abbrev yP:Stmt:=Yx (top 20) 1
theorem Z4N:ak ["self","place","left"] ["self","place","left"] (Yk yP):=⟨rfl,rfl,rfl,by decide +kernel,rfl,by decide +kernel,by decide +kernel⟩
abbrev yQ:Stmt:=Yx (top 20) 2
theorem GP:ak ["self","size","place"] ["self","size"] (Yk yQ):=⟨rfl,rfl,rfl,by decide +kernel,rfl,by decide +kernel,by decide +kernel⟩
abbrev yR:Stmt:=Yx (top 20) 3
theorem GQ:ak ["self","place","left","part"] ["self","place","left"] (Yk yR):=⟨rfl,rfl,rfl,by decide +kernel,rfl,by decide +kernel,by decide +kernel⟩
abbrev yS:Stmt:=Yx (top 27) 0
theorem Z4c:ak ["self","parts"] ["self","parts"] (Yk yS):=⟨rfl,rfl,rfl,by decide +kernel,rfl,by decide +kernel,by decide +kernel⟩
abbrev yU:Stmt:=Yx (top 27) 1
theorem Z4d:ak ["self","size"] ["self","size"] (Yk yU):=⟨rfl,rfl,rfl,by decide +kernel,rfl,by decide +kernel,by decide +kernel⟩
abbrev yV:Stmt:=Yx (top 27) 2
theorem ZU:ak ["self","size","number","things","left","rest","place","part","found"] ["self","size","number"] (Yk yV):=⟨rfl,rfl,rfl,by decide +kernel,rfl,by decide +kernel,by decide +kernel⟩
abbrev yW:Stmt:=Yx (top 31) 0
theorem Z3L:ak ["self","marks","parts"] ["self","marks","parts"] (Yk yW):=⟨rfl,rfl,rfl,by decide +kernel,rfl,by decide +kernel,by decide +kernel⟩
abbrev yX:Stmt:=Yx (top 31) 1
theorem Z3w:ak ["self","size"] ["self","size"] (Yk yX):=⟨rfl,rfl,rfl,by decide +kernel,rfl,by decide +kernel,by decide +kernel⟩
abbrev yZ:Stmt:=Yx (top 31) 2
theorem Z3M:ak ["self","size"] ["self","size"] (Yk yZ):=⟨rfl,rfl,rfl,by decide +kernel,rfl,by decide +kernel,by decide +kernel⟩
abbrev za:Stmt:=Yx (top 31) 3
theorem GR:ak ["self","size","number","found"] ["self","size","number"] (Yk za):=⟨rfl,rfl,rfl,by decide +kernel,rfl,by decide +kernel,by decide +kernel⟩
abbrev zc:Stmt:=Yx (top 28) 0
theorem Z3N:ak ["self","part"] ["self","part"] (Yk zc):=⟨rfl,rfl,rfl,by decide +kernel,rfl,by decide +kernel,by decide +kernel⟩
abbrev zf:Stmt:=Yx (top 28) 1
theorem Z3x:ak ["self","left"] ["self","left"] (Yk zf):=⟨rfl,rfl,rfl,by decide +kernel,rfl,by decide +kernel,by decide +kernel⟩
abbrev zj:Stmt:=Yx (top 28) 2
theorem Z3O:ak ["self","size"] ["self","size"] (Yk zj):=⟨rfl,rfl,rfl,by decide +kernel,rfl,by decide +kernel,by decide +kernel⟩
abbrev zm:Stmt:=Yx (top 28) 3
theorem jV:ak ["self","size","number","things","left","rest","found"] ["self","size","number"] (Yk zm):=⟨rfl,rfl,rfl,by decide +kernel,rfl,by decide +kernel,by decide +kernel⟩
abbrev zp:Stmt:=Yx (top 30) 0
theorem Z3y:ak ["self","part","times"] ["self","part","times"] (Yk zp):=⟨rfl,rfl,rfl,by decide +kernel,rfl,by decide +kernel,by decide +kernel⟩
abbrev zq:Stmt:=Yx (top 30) 1
theorem Z3z:ak ["self","size"] ["self","size"] (Yk zq):=⟨rfl,rfl,rfl,by decide +kernel,rfl,by decide +kernel,by decide +kernel⟩
abbrev zu:Stmt:=Yx (top 30) 2
theorem Z3A:ak ["self","size","number"] ["self","size","number"] (Yk zu):=⟨rfl,rfl,rfl,by decide +kernel,rfl,by decide +kernel,by decide +kernel⟩
abbrev zx:Stmt:=Yx (top 32) 0
theorem Z4e:ak ["self"] ["self"] (Yk zx):=⟨rfl,rfl,rfl,by decide +kernel,rfl,by decide +kernel,by decide +kernel⟩
abbrev zy:Stmt:=Yx (top 32) 1
theorem Z4f:ak ["self","size"] ["self","size"] (Yk zy):=⟨rfl,rfl,rfl,by decide +kernel,rfl,by decide +kernel,by decide +kernel⟩
abbrev zA:Stmt:=Yx (top 32) 2
theorem Z4g:ak ["self","size","number"] ["self","size","number"] (Yk zA):=⟨rfl,rfl,rfl,by decide +kernel,rfl,by decide +kernel,by decide +kernel⟩
abbrev zB:Stmt:=Yx (top 17) 0
theorem Z5j:ak ["self","place","choice","rest"] ["self","place","choice","rest"] (Yk zB):=⟨rfl,rfl,rfl,by decide +kernel,rfl,by decide +kernel,by decide +kernel⟩
abbrev zE:Stmt:=Yx (top 23) 0
theorem Z5k:ak ["self"] ["self"] (Yk zE):=⟨rfl,rfl,rfl,by decide +kernel,rfl,by decide +kernel,by decide +kernel⟩
abbrev uq:Stmt:=Yx (top 23) 1
theorem Z3B:ak ["self","size"] ["self","size"] (Yk uq):=⟨rfl,rfl,rfl,by decide +kernel,rfl,by decide +kernel,by decide +kernel⟩
abbrev GX:Stmt:=Yx (top 23) 1
abbrev GZ:Stmt:=Yx (top 23) 1
abbrev G4:Stmt:=Yx (top 23) 1
abbrev G5:Stmt:=Yx (top 23) 1
abbrev G6:Stmt:=Yx (top 23) 1
abbrev G7:Stmt:=Yx (top 23) 1
variable {g:Gx}
local macro_rules|`(tactic|walk_at "rd")=>do
 let f:=fun (s:String)=>do
  let r←Lean.Macro.resolveGlobalName s.toName
  pure (Lean.mkCIdent (r.headD (s.toName,[])).1)
 let m1←("L2.Wc Fy Fz aa eI χ il List.cons_append ik List.replicate_succ List.replicate_zero Nat.reduceAdd Nat.reduceSub XS qY vW lH tC WU gJ rI rU vN oK DN sV vH Dz DG sZ Yy Vx Vw lK W7 wX Gd Gb rD tH Uo UY Ends.gone tB qW vp qX vA vB Dy vG Ei Qq v7 v9 vI qZ tL tM wk rF rE Vf wV FZ wW FW Fp wD Fo Gh w6 Qx xG Gg FQ FT wu tQ rH Qu UH vQ vR rM Es vK tu YB List.getD_cons_zero List.getD_cons_succ List.getElem?_cons_zero List.getElem?_cons_succ List.set_cons_zero List.set_cons_succ Ds Dt Dl Dm Dn Dp Dq tO wN vX vY DY Ea".splitOn " ").toArray.mapM f
 let l1:=m1
 let m2←("Nat.zero_add fq Vv XB Tc YA decide_true not_true_eq_false not_false_eq_true exists_eq_left' exists_eq_left exists_eq' exists_eq exists_and_left and_assoc Option.some.injEq V.int.injEq V.bl.injEq V.ref.injEq V.str.injEq b7 and_true true_and a4 decide_eq_true_eq Bool.not_eq_true' decide_eq_false_iff_not Bool.not_not Bool.not_true Bool.not_false Bool.true_eq_false dA if_true if_false ite_true ite_false Qo sS Ve vP".splitOn " ").toArray.mapM f
 let l2:=l1++m2
 `(tactic| (dsimp (config:={ failIfUnchanged:=false }) only[$[$l1:ident],*];simp (config:={ failIfUnchanged:=false,maxSteps:=10000000 }) only[$[$l2:ident],*]))
theorem cm {i j:Int} {m n:Nat} (h1:i.natAbs<2^m) (h2:j.natAbs<2^n) (h:m+n<=100000000:=by decide):tY i j:=⟨m,n,h1,h2,h⟩
theorem zF {i j:Int} (h:0<=j/\j<=1000000/\i.natAbs<2^64:=by decide):rA i j:=h
theorem few {n:Nat} (h:n<=100000):n<=sizeLine:=Ο h (by decide)
theorem WQ (x:Int) {j:Int} (h:0<j):∃ r:Nat,x%j=r/\(r:Int)<j:=⟨(x%j).toNat,by have:=d3 x (Int.ne_of_gt h);omega,by have:=gu x h;have:=d3 x (Int.ne_of_gt h);omega⟩
variable {m:Nat}
variable {src:List (Option Nat)} {te:TE} {σ:St} {H:Hp} {Q:VK}
variable {P0:ζ} {w0:ν} {K:Ι} {C:Cs} {CL:Addr} {prs:aU} {w:Wo} {U O:Addr->Prop} {H H':Hp} {ls dx d B:Addr} {xs:Dx}
variable {P0:ζ} {w0:ν} {K:Ι} {C:Cs} {CL:Addr} {prs:aU} {w w1:Wo} {U U1 O:Addr->Prop} {H H1 H3:Hp} {ls dx d B:Addr} {xs xs1:Dx}
variable {P0:ζ} {w0:ν} {K:Ι} {C:Cs} {CL:Addr} {prs:aU} {w:Wo} {U O O':Addr->Prop} {H H':Hp} {ls dx d B:Addr} {xs:Dx}
def SameBut (p:Addr) (H H':Hp):Prop:=∀ q o,q≠p->H q=some o->H' q=some o
inductive Sh | w (lo:Int) (span:Nat) | t (sg:List Nat) | row (ps:List Sh) | pick (mk:List (List Nat)) (ps:List Sh) | many (p:Sh) | alike (p:Sh) (n:Nat) | use (x:List Nat)
def wc (span:Int) (k:Nat):Int:=if (if (1*2^k - 1:Int)<span then (1*2^k - 1:Int) else span) - 1*2^k / 2^1+1>0 then (if (1*2^k - 1:Int)<span then (1*2^k - 1:Int) else span) - 1*2^k / 2^1+1 else 0
theorem wc0 (span:Int) (k:Nat):0<=wc span k:=by
 unfold wc
 split<;>omega
mutual
def dep:Sh->Nat
 | .row ps=>YG ps+1
 | .pick _ ps=>YG ps+1
 | .many p=>dep p+1
 | .alike p _=>dep p+1
 | _=>0
def YG:List Sh->Nat
 | []=>0
 | p::ps=>max (dep p) (YG ps)
end
theorem X5 {p:Sh}:∀ {ps:List Sh},p∈ps->dep p<=YG ps
 | q::ps,h=>by
  rw [YG];rcases Φ.mp h with rfl | h
  ·omega
  ·have:=X5 h
   omega
def aZ {α β γ:Type} (g:α->β->γ) (A:List α) (B:List β):List γ:=A.flatMap λa=>B.map (g a)
theorem XZ {α β γ:Type} (g:α->β->γ) (A:List α) (B:List β):(aZ g A B).length=A.length*B.length:=by
 induction A with
 | nil=>simp [aZ]
 | cons a A ih =>
  rw [aZ,ej,Μ,Β,<- aZ,ih,χ,ib,Nat.add_comm]
theorem zG {α β γ:Type} {g:α->β->γ} {B:List β} {b:β} {j:Nat} (hb:B[j]?=some b):∀ {A:List α} {i:Nat} {a:α},A[i]?=some a->(aZ g A B)[i*B.length+j]?=some (g a b)
 | [],i,a,h=>by simp at h
 | x::A,0,a,h=>by
  cases Γ h
  have hj:=(Η.mp hb).1;rw [aZ,ej,Nat.zero_mul,Nat.zero_add,aw (by rw [Β];exact hj),Λ,hb];rfl
 | x::A,i+1,a,h=>by
  rw [aZ,ej,az (by rw [Β,ib];omega),Β,<- aZ,show (i+1)*B.length+j - B.length=i*B.length+j by rw [ib];omega];exact zG hb (by simpa using h)
def VE {α:Type} (F:Nat->List α):Nat->List (List (List α))
 | 0=>[[[]]]
 | n+1=>VE F n++[(η (n+1)).flatMap λf=>aZ bX (F f) ((VE F n).getD (n - f) [])]
def bZ {α:Type} (F:Nat->List α) (s:Nat):List (List α):=(VE F s).getD s []
theorem VF {α:Type} (F:Nat->List α):∀ n,(VE F n).length=n+1
 | 0=>rfl
 | n+1=>by rw [VE,Μ,VF F n];rfl
theorem G8 {α:Type} (F:Nat->List α):∀ n f,f<=n->(VE F n).getD f []=bZ F f
 | 0,f,hf=>by cases Nat.le_zero.mp hf;rfl
 | n+1,f,hf=>by
  by_cases c:f<=n
  ·rw [VE,ae,aw (by rw [VF];omega),<- ae]
   exact G8 F n f c
  ·have:f=n+1:=by omega
   subst this;rfl
theorem VG {α:Type} (F:Nat->List α):bZ F 0=[[]]:=rfl
theorem Wg {α β:Type} {f g:α->List β}:∀ {l:List α},(∀ x∈l,f x=g x)->l.flatMap f=l.flatMap g
 | [],_=>rfl
 | a::l,h=>by rw [ej,ej,h a (.head _),Wg λx hx=>h x (.tail _ hx)]
theorem XA {α:Type} (F:Nat->List α) (s:Nat):bZ F (s+1)=(η (s+1)).flatMap λf=>aZ bX (F f) (bZ F (s - f)):=by
 show (VE F (s+1)).getD (s+1) []=_
 rw [VE,ae,az (by rw [VF];omega),VF,fq]
 show List.flatMap _ _=_
 exact Wg λf _=>by rw [G8 F s (s - f) (by omega)]
theorem V8 {α:Type} {F G:Nat->List α}:∀ {n s:Nat},(∀ f,f<n->F f=G f)->s<=n->bZ F s=bZ G s
 | n,0,_,_=>rfl
 | n,s+1,h,hs=>by
  rw [XA,XA];exact Wg λf hf=>by
   have:=a7.mp hf;rw [h f (by omega),V8 (n:=n) (s:=s - f) h (by omega)]
def bU (sg:List Nat):Nat->List (List Nat)
 | 0=>[[]]
 | s+1=>aZ (λx c=>x++[c]) (bU sg s) sg
mutual
def bf (E:List Nat->Nat->List Ζ):Sh->Nat->List Ζ
 | .w lo span,s=>(η (wc span s).toNat).map λ(r:Nat) => .int (lo+1*2^s / 2^1+(r:Int))
 | .t sg,s=>(bU sg s).map λx => .str (S x)
 | .row ps,s=>(dZ E ps s).map .tuple
 | .pick mk ps,s=>cC E mk ps s
 | .many p,s=>(bZ (bf E p) s).map .list
 | .alike p n,s=>if s<n\/s%n≠0 then [] else (bf E p (s / n - 1)).map λd => .list (ft n d)
 | .use x,s=>if s=0 then [] else E x (s - 1)
def dZ (E:List Nat->Nat->List Ζ):List Sh->Nat->List (List Ζ)
 | [],s=>if s=0 then [[]] else []
 | p::ps,s=>(η (s+1)).flatMap λf=>aZ bX (bf E p f) (dZ E ps (s - f))
def cC (E:List Nat->Nat->List Ζ):List (List Nat)->List Sh->Nat->List Ζ
 | mk,p::ps,s=>(bf E p s).map (λd => .tuple [.str (S (mk.headD [])),d])++cC E mk.tail ps s
 | _,[],_=>[]
end
section
 variable {E E':List Nat->Nat->List Ζ} {n:Nat}
mutual
theorem Wq (h:∀ x s,s<n->E x s=E' x s):∀ (sh:Sh) (s:Nat),s<=n->bf E sh s=bf E' sh s
 | .w _ _,s,_=>by rw [bf,bf]
 | .t _,s,_=>by rw [bf,bf]
 | .row ps,s,hs=>by rw [bf,bf,UL h ps s hs]
 | .pick mk ps,s,hs=>by rw [bf,bf,G9 h mk ps s hs]
 | .many p,s,hs=>by rw [bf,bf,V8 (G:=bf E' p) (n:=s) (λf hf=>Wq h p f (by omega)) (Κ _)]
 | .alike p k,s,hs=>by rw [bf,bf,Wq h p (s / k - 1) (by have:=cE s k;omega)]
 | .use x,s,hs=>by
  rw [bf,bf];by_cases c:s=0
  ·rw [if_pos c,if_pos c]
  ·rw [if_neg c,if_neg c,h x (s - 1) (by omega)]
theorem UL (h:∀ x s,s<n->E x s=E' x s):∀ (ps:List Sh) (s:Nat),s<=n->dZ E ps s=dZ E' ps s
 | [],s,_=>by rw [dZ,dZ]
 | p::ps,s,hs=>by
  rw [dZ,dZ];exact Wg λf hf=>by
   have:=a7.mp hf;rw [Wq h p f (by omega),UL h ps (s - f) (by omega)]
theorem G9 (h:∀ x s,s<n->E x s=E' x s):∀ (mk:List (List Nat)) (ps:List Sh) (s:Nat),s<=n->cC E mk ps s=cC E' mk ps s
 | mk,[],s,_=>by rw [cC,cC]
 | mk,p::ps,s,hs=>by rw [cC,cC,Wq h p s hs,G9 h mk.tail ps s hs]
end
end
def gP (bk:List Nat->Sh):Nat->List Nat->Nat->List Ζ
 | 0=>λ_ _=>[]
 | n+1=>λx s=>bf (gP bk n) (bk x) s
theorem QC (bk:List Nat->Sh):∀ (n m:Nat) (x:List Nat) (s:Nat),s<n->s<m->gP bk n x s=gP bk m x s
 | n+1,m+1,x,s,h1,h2=>Wq (n:=s) (λx' s' h=>QC bk n m x' s' (by omega) (by omega)) (bk x) s (Κ _)
def en (bk:List Nat->Sh) (sh:Sh) (s:Nat):List PyData:=bf (gP bk s) sh s
def bL (bk:List Nat->Sh) (ps:List Sh) (s:Nat):List (List Ζ):=dZ (gP bk s) ps s
def bW (bk:List Nat->Sh) (mk:List (List Nat)) (ps:List Sh) (s:Nat):List PyData:=cC (gP bk s) mk ps s
section
 variable (bk:List Nat->Sh)
theorem zH {n s:Nat} (h:s<=n) (sh:Sh):bf (gP bk n) sh s=en bk sh s:=Wq (n:=s) (λx s' h'=>QC bk n s x s' (by omega) h') sh s (Κ _)
theorem YgL {n s:Nat} (h:s<=n) (ps:List Sh):dZ (gP bk n) ps s=bL bk ps s:=UL (n:=s) (λx s' h'=>QC bk n s x s' (by omega) h') ps s (Κ _)
theorem pq (lo:Int) (span s:Nat):en bk (.w lo span) s=(η (wc span s).toNat).map λ(r:Nat) => .int (lo+1*2^s / 2^1+(r:Int)):=by rw [en,bf]
theorem VH (sg:List Nat) (s:Nat):en bk (.t sg) s=(bU sg s).map λx => .str (S x):=by rw [en,bf]
theorem W1 (ps:List Sh) (s:Nat):en bk (.row ps) s=(bL bk ps s).map .tuple:=by rw [en,bf,bL]
theorem WR (mk:List (List Nat)) (ps:List Sh) (s:Nat):en bk (.pick mk ps) s=bW bk mk ps s:=by rw [en,bf,bW]
theorem XJ (mk:List (List Nat)) (p:Sh) (ps:List Sh) (s:Nat):bW bk mk (p::ps) s=(en bk p s).map (λd => .tuple [.str (S (mk.headD [])),d])++bW bk mk.tail ps s:=by rw [bW,cC,en,bW]
theorem Xo (p:Sh) (s:Nat):en bk (.many p) s=(bZ (en bk p) s).map .list:=by rw [en,bf,V8 (G:=en bk p) (n:=s) (λf hf=>zH bk (by omega) p) (Κ _)]
theorem W2 (p:Sh) (n s:Nat):en bk (.alike p n) s=if s<n\/s%n≠0 then [] else (en bk p (s / n - 1)).map λd => .list (ft n d):=by
 rw [en,bf,zH bk (by have:=cE s n;omega) p]
theorem Ur (x:List Nat):en bk (.use x) 0=[]:=by rw [en,bf,if_pos rfl]
theorem V9 (x:List Nat) (s:Nat):en bk (.use x) (s+1)=en bk (bk x) s:=by
 rw [en,bf,if_neg (by omega)];rfl
theorem X6 (s:Nat):bL bk [] s=if s=0 then [[]] else []:=by rw [bL,dZ]
theorem XT (p:Sh) (ps:List Sh) (s:Nat):bL bk (p::ps) s=(η (s+1)).flatMap λf=>aZ bX (en bk p f) (bL bk ps (s - f)):=by
 rw [bL,dZ];exact Wg λf hf=>by
  have:=a7.mp hf;rw [zH bk (by omega) p,YgL bk (by omega) ps]
def cnt (sh:Sh) (s:Nat):Int:=((en bk sh s).length:Int)
def YU (ps:List Sh) (s:Nat):Int:=((bL bk ps s).length:Int)
theorem zJ {α:Type} (g:α->Nat):∀ l:List α,(((l.map g).sum:Nat):Int)=(l.map λx=>(g x:Int)).sum
 | []=>rfl
 | a::l=>by rw [aa,aa,ef,ef,dS,zJ g l]
theorem Hf {α β γ:Type} (g:α->β->γ) (A:Nat->List α) (B:Nat->List β) (l:List Nat):(((l.flatMap λf=>aZ g (A f) (B f)).length:Nat):Int)=(l.map λf=>((A f).length:Int)*((B f).length:Int)).sum:=by
 rw [List.length_flatMap,zJ]
 congr 1
 exact a5 λf _=>by rw [XZ,eS]
theorem rT (sh:Sh) (s:Nat):0<=cnt bk sh s:=fc _
theorem CQ (ps:List Sh) (s:Nat):0<=YU bk ps s:=fc _
theorem Hg (lo:Int) (span s:Nat):cnt bk (.w lo span) s=wc span s:=by
 rw [cnt,pq,Β,aS,Int.toNat_of_nonneg (wc0 _ _)]
theorem YgM (sg:List Nat):cnt bk (.t sg) 0=1:=by rw [cnt,VH];rfl
theorem YgN (sg:List Nat) (s:Nat):cnt bk (.t sg) (s+1)=sg.length*cnt bk (.t sg) s:=by
 rw [cnt,cnt,VH,VH,Β,Β,bU,XZ,eS,Int.mul_comm]
theorem QD (ps:List Sh) (s:Nat):cnt bk (.row ps) s=YU bk ps s:=by rw [cnt,W1,Β,YU]
theorem Hh (s:Nat):YU bk [] s=if s=0 then 1 else 0:=by
 rw [YU,X6]
 split<;>rfl
theorem Q1 (p:Sh) (ps:List Sh) (s:Nat):YU bk (p::ps) s=((η (s+1)).map λf=>cnt bk p f*YU bk ps (s - f)).sum:=by
 rw [YU,XT,Hf];rfl
theorem Hi (mk:List (List Nat)) (ps:List Sh) (s:Nat):cnt bk (.pick mk ps) s=(ps.map λp=>cnt bk p s).sum:=by
 rw [cnt,WR]
 induction ps generalizing mk with
 | nil=>rw [bW,cC];rfl
 | cons p ps ih=>rw [XJ,Μ,Β,dS,ih,aa,ef];rfl
theorem Q2 (p:Sh):cnt bk (.many p) 0=1:=by rw [cnt,Xo];rfl
theorem YeR (p:Sh) (s:Nat):cnt bk (.many p) (s+1)=((η (s+1)).map λf=>cnt bk p f*cnt bk (.many p) (s - f)).sum:=by
 rw [cnt,Xo,Β,XA,Hf]
 congr 1
 exact a5 λf _=>by rw [cnt,cnt,Xo,Β]
theorem Ub (p:Sh) (n s:Nat):cnt bk (.alike p n) s=if s<n\/s%n≠0 then 0 else cnt bk p (s / n - 1):=by
 rw [cnt,W2]
 split
 ·rfl
 ·rw [Β,cnt]
theorem Hj (x:List Nat):cnt bk (.use x) 0=0:=by rw [cnt,Ur];rfl
theorem Hl (x:List Nat) (s:Nat):cnt bk (.use x) (s+1)=cnt bk (bk x) s:=by rw [cnt,V9,cnt]
end
mutual
def kd:Sh->Ζ
 | .w lo span => .tuple [.str "whole",.int lo,.int (lo+span)]
 | .t sg => .tuple [.str "text",.str (S sg)]
 | .row ps => .tuple [.str "row",.tuple (bJ ps)]
 | .pick mk ps => .tuple [.str "pick",.tuple (kdp mk ps)]
 | .many p => .tuple [.str "many",kd p]
 | .alike p n => .tuple [.str "alike",kd p,.int n]
 | .use x => .tuple [.str "use",.str (S x)]
def bJ:List Sh->List Ζ
 | []=>[]
 | p::ps=>kd p::bJ ps
def kdp:List (List Nat)->List Sh->List Ζ
 | m::mk,p::ps => .tuple [.str (S m),kd p]::kdp mk ps
 | _,_=>[]
end
def aX (f:Nat->Int) (n:Nat):List V:=(η n).map λk=>V.int (f k)
theorem Xr (f:Nat->Int) (n:Nat):(aX f n).length=n:=by simp [aX]
theorem Vb (f:Nat->Int) (n:Nat):aX f (n+1)=aX f n++[.int (f n)]:=by simp [aX,cK]
theorem Us (f:Nat->Int) {n i:Nat} (h:i<n):dG (aX f n) (i:Int)=some (.int (f i)):=Yo (by simp [aX,h])
theorem dle (x k:Nat):decide ((x:Int)<=(k:Int))=decide (x<=k):=decide_eq_decide.mpr (by omega)
structure Cs where
 (w t row tab pick many alike use:Addr)
structure Wo where
 bk:List Nat->Sh
 reg:Addr->Option Sh
 D:Addr->Option (Addr×Nat)
 M:Nat
structure Sw where
 ns:Addr->Nat
 ms:Addr->Nat->Nat
 U:Addr->Prop
def Uc (C:Cs):Sh->Addr
 | .w _ _=>C.w
 | .t _=>C.t
 | .row _=>C.row
 | .pick _ _=>C.pick
 | .many _=>C.many
 | .alike _ _=>C.alike
 | .use _=>C.use
def WE (reg:Addr->Option Sh) (as:List Addr) (ps:List Sh):Prop:=as.length=ps.length/\∀ (i:Nat) a p,as[i]?=some a->ps[i]?=some p->reg a=some p
def sm (x:Int):Prop:=∃ n:Nat,n<=10000000/\x.natAbs<2^n
def Un (w:Wo) (t:Sw) (b:Addr):Prop:=w.D b=none/\t.U b
def fW (lo:Int) (span:Nat):List (Str×V):=[("low",.int lo),("span",.int span)]
def fR (P T:Addr):List (Str×V):=[("parts",.ref P),("table",.ref T)]
def Wr (P L:Addr):List (Str×V):=[("parts",.ref P),("ways",.ref L)]
def fP (M P:Addr):List (Str×V):=[("marks",.ref M),("parts",.ref P)]
def fT (sg:List Nat):List (Str×V):=[("signs",.str (S sg))]
def fM (a:Addr):List (Str×V):=[("part",.ref a)]
def fA (n:Nat) (a:Addr):List (Str×V):=[("part",.ref a),("times",.int n)]
def fU (a:V):List (Str×V):=[("named",a)]
def mf (c:Addr) (fs:List (Str×V)):List (Str×V):=("counts",.ref c)::fs
structure fZ (w:Wo) (t:Sw) (p:Addr) (as:List Addr) (ps:List Sh):Prop where
 len:as.length=ps.length
 reg:∀ (i:Nat) a p,as[i]?=some a->ps[i]?=some p->w.reg a=some p
 cn:∀ a∈as,t.ns p<=t.ns a
structure fG (w:Wo) (t:Sw) (p:Addr) (as:List Addr) (ps:List Sh):Prop where
 len:as.length=ps.length
 reg:∀ (i:Nat) a p,as[i]?=some a->ps[i]?=some p->w.reg a=some p
 cn:∀ (i:Nat) a,as[i]?=some a->t.ms p i<=t.ns a
def Ut (C:Cs) (H:Hp) (q:Addr) (i:Nat) (a:Addr):Prop:=∃ dx c P T,∃ as:List Addr,H q=some (.ins C.row dx (mf c (fR P T)))/\H P=some (.lst (as.map V.ref))/\as[i]?=some a
def pf:Sh->Nat->Nat
 | .many _,n=>n - 1
 | .alike _ k,n=>(n - 1) / k
 | .use _,n=>n - 1
 | _,n=>n
inductive One (w:Wo) (t:Sw) (p:Addr) (sh q:Sh) (F:Addr->List (Str×V)) (fs:List (Str×V)):Prop
 | mk (a:Addr) (e:fs=F a) (r:w.reg a=some q) (n:pf sh (t.ns p)<=t.ns a)
def Sub (C:Cs) (w:Wo) (t:Sw) (H:Hp) (p:Addr):Sh->List (Str×V)->Prop
 | .w lo span,fs=>fs=fW lo span
 | .t sg,fs=>fs=fT sg/\sg.length<=62
 | .row ps,fs=>∃ (P T dt L:Addr) (as ws:List Addr),fs=fR P T/\Un w t P/\Un w t T/\Un w t L/\H P=some (.lst (as.map V.ref))/\fG w t p as ps/\ps.length<=100 /\
   H T=some (.ins C.tab dt (Wr P L))/\H L=some (.lst (ws.map V.ref))/\ws.length=ps.length+1 /\
   (∀ (i:Nat) x,ws[i]?=some x->w.D x=some (p,i+1)/\t.ns p<=t.ms p i/\t.ms p i<=60/\H x=some (.lst (aX (YU w.bk (ps.drop i)) (t.ms p i))))/\∀ i s,s<=45->sm (YU w.bk (ps.drop i) s)
 | .pick mk ps,fs=>∃ (M P:Addr) (as:List Addr),fs=fP M P/\Un w t M/\Un w t P/\H M=some (.lst (mk.map λm=>V.str (S m)))/\H P=some (.lst (as.map V.ref))/\fZ w t p as ps/\ps.length<=100
 | .many q,fs=>One w t p (.many q) q fM fs
 | .alike q n,fs=>One w t p (.alike q n) q (fA n) fs/\1<=n/\n<=100
 | .use x,fs=>One w t p (.use x) (w.bk x) (λa=>fU (.ref a)) fs
def ur (H:Hp):Sh->List (Str×V)->List Addr->Prop
 | .w _ _,_,as=>as=[]
 | .t _,_,as=>as=[]
 | .row _,_,as=>as=[]
 | .pick _ _,fs,as=>∃ M P,fs=fP M P/\H P=some (.lst (as.map V.ref))
 | .many _,fs,as=>∃ a,fs=fM a/\as=[a]
 | .alike _ n,fs,as=>∃ a,fs=fA n a/\as=[a]
 | .use _,fs,as=>∃ a,fs=fU (.ref a)/\as=[a]
def Wh (C:Cs) (w:Wo) (t:Sw) (H:Hp) (p:Addr) (sh:Sh):Prop:=∃ (dx c:Addr) (fs:List (Str×V)),Un w t p/\dep sh<=w.M/\(∀ s,s<=45->sm (cnt w.bk sh s))/\t.ns p<=60/\H p=some (.ins (Uc C sh) dx (mf c fs))/\w.D c=some (p,0)/\H c=some (.lst (aX (cnt w.bk sh) (t.ns p)))/\Sub C w t H p sh fs
structure WI (C:Cs) (w:Wo) (t:Sw) (H:Hp):Prop where
 at_:∀ p sh,w.reg p=some sh->Wh C w t H p sh
 al:∀ b,t.U b->H b≠none
 ow:∀ b x,w.D b=some x->t.U b
 inj:∀ b b' x,w.D b=some x->w.D b'=some x->b=b'
theorem Sub.keep {C:Cs} {w:Wo} {t:Sw} {H H':Hp} {p:Addr} (ow:∀ b x,w.D b=some x->t.U b) (hk:∀ b o,t.U b->H b=some o->H' b=some o):∀ {sh:Sh} {fs:List (Str×V)},Sub C w t H p sh fs->Sub C w t H' p sh fs
 | .w lo span,fs,h=>h
 | .t sg,fs,h=>h
 | .many q,fs,h=>h
 | .alike q n,fs,h=>h
 | .row ps,fs,h=>by
  obtain ⟨P,T,dt,L,as,ws,h1,h2,h3,h4,h5,h6,h7,h8,h9,h10,h11,h12⟩:=h;exact ⟨P,T,dt,L,as,ws,h1,h2,h3,h4,hk _ _ h2.2 h5,h6,h7,hk _ _ h3.2 h8,hk _ _ h4.2 h9,h10,λi x hx=>⟨(h11 i x hx).1,(h11 i x hx).2.1,(h11 i x hx).2.2.1,hk _ _ (ow _ _ (h11 i x hx).1) (h11 i x hx).2.2.2⟩,h12⟩
 | .pick mk ps,fs,h=>by
  obtain ⟨M,P,as,h1,h2,h3,h4,h5,h6,h7⟩:=h;exact ⟨M,P,as,h1,h2,h3,hk _ _ h2.2 h4,hk _ _ h3.2 h5,h6,h7⟩
 | .use x,fs,h=>h
theorem WI.keep {C:Cs} {w:Wo} {t:Sw} {H H':Hp} (h:WI C w t H) (hk:∀ b o,t.U b->H b=some o->H' b=some o):WI C w t H':=by
 refine ⟨λp sh hr=>?_,λb hb=>?_,h.ow,h.inj⟩
 ·obtain ⟨dx,c,fs,h1,h2,h3,h4,h5,h6,h7,h8⟩:=h.at_ p sh hr
  exact ⟨dx,c,fs,h1,h2,h3,h4,hk _ _ h1.2 h5,h6,hk _ _ (h.ow _ _ h6) h7,h8.keep h.ow hk⟩
 ·have:=h.al b hb
  cases e:H b with
  | none=>exact absurd e this
  | some o=>rw [hk b o hb e];intro z;cases z
theorem WI.same {C:Cs} {w:Wo} {t:Sw} {H H':Hp} (h:WI C w t H) (s:Yj H H'):WI C w t H':=h.keep λb o _ e=>s _ _ e
theorem WI.new {C:Cs} {w:Wo} {t:Sw} {H:Hp} (h:WI C w t H) {a:Addr} (ha:H a=none):w.D a=none/\¬ t.U a:=by
 have n:¬ t.U a:=λz=>h.al a z ha
 refine ⟨?_,n⟩
 cases e:w.D a with
 | none=>rfl
 | some x=>exact absurd (h.ow a x e) n
theorem WI.loc {C:Cs} {w:Wo} {t:Sw} {H:Hp} (h:WI C w t H) {a:Addr} (ha:¬ t.U a) (o:HO):WI C w t (upd H a o):=h.keep λb u hb e=>by rw [Yh λz=>ha (by rw [<- z];exact hb)];exact e
def Sw.bN (t:Sw) (p:Addr) (n:Nat):Sw:={ t with ns:=λq=>if q=p then n else t.ns q }
def Sw.iw (t:Sw) (p:Addr) (i n:Nat):Sw:={ t with ms:=λq j=>if q=p/\i<=j then n else t.ms q j }
theorem fZ.bN {w:Wo} {t:Sw} {p q:Addr} {as:List Addr} {ps:List Sh} {n:Nat} (h:fZ w t p as ps) (hge:t.ns q<=n) (hp:p=q->∀ a∈as,n<=t.ns a):fZ w (t.bN q n) p as ps:=⟨h.1,h.2,λa ha=>by
 show (if p=q then n else t.ns p)<=(if a=q then n else t.ns a)
 have h3:=h.3 a ha;by_cases e:p=q
 ·have:=hp e a ha
  rw [if_pos e]
  split<;>omega
 ·rw [if_neg e]
  split
  ·rename_i z;rw [z] at h3;omega
  ·exact h3⟩
theorem fG.bN {w:Wo} {t:Sw} {p q:Addr} {as:List Addr} {ps:List Sh} {n:Nat} (h:fG w t p as ps) (hge:t.ns q<=n):fG w (t.bN q n) p as ps:=⟨h.1,h.2,λi a ha=>by
 show t.ms p i<=(if a=q then n else t.ns a)
 have h3:=h.3 i a ha
 split
 ·rename_i z;rw [z] at h3;omega
 ·exact h3⟩
theorem One.bN {w:Wo} {t:Sw} {p q:Addr} {sh s:Sh} {F:Addr->List (Str×V)} {fs:List (Str×V)} {n:Nat} (h:One w t p sh s F fs) (hge:t.ns q<=n) (hp:p=q->∀ a,fs=F a->pf sh n<=t.ns a):One w (t.bN q n) p sh s F fs:=by
 obtain ⟨a,h1,h2,h3⟩:=h;refine ⟨a,h1,h2,?_⟩
 show pf sh (if p=q then n else t.ns p)<=(if a=q then n else t.ns a)
 by_cases e:p=q
 ·have:=hp e a h1
  rw [if_pos e]
  split
  ·rename_i z;rw [z] at this;omega
  ·exact this
 ·rw [if_neg e]
  split
  ·rename_i z;rw [z] at h3;omega
  ·exact h3
theorem Sub.bN {C:Cs} {w:Wo} {t:Sw} {H:Hp} {p q c:Addr} {n:Nat} {o:HO} (hc:w.D c=some (q,0)) (hge:t.ns q<=n):∀ {sh:Sh} {fs:List (Str×V)},(p=q->∀ ps,sh = .row ps->∀ i,n<=t.ms p i)->(p=q->∀ as,ur H sh fs as->∀ a∈as,pf sh n<=t.ns a)->Sub C w t H p sh fs->Sub C w (t.bN q n) (upd H c o) p sh fs
 | .w lo span,fs,_,_,h=>h
 | .t sg,fs,_,_,h=>h
 | .many s,fs,_,hpt,h=>One.bN h hge λe a ea=>hpt e [a] ⟨a,ea,rfl⟩ a (.head _)
 | .alike s k,fs,_,hpt,h=>⟨One.bN h.1 hge λe a ea=>hpt e [a] ⟨a,ea,rfl⟩ a (.head _),h.2⟩
 | .row ps,fs,fH,hpt,h=>by
  obtain ⟨P,T,dt,L,as,ws,h1,h2,h3,h4,h5,h6,h7,h8,h9,h10,h11,h12⟩:=h;have ne:∀ {b:Addr},w.D b=none->b≠c:=λe z=>by rw [z,hc] at e;cases e
  refine ⟨P,T,dt,L,as,ws,h1,h2,h3,h4,(Yh (ne h2.1)).trans h5,h6.bN hge,h7,(Yh (ne h3.1)).trans h8,(Yh (ne h4.1)).trans h9,h10,λi x hx=>⟨(h11 i x hx).1,?_,(h11 i x hx).2.2.1,?_⟩,h12⟩
  ·show (if p=q then n else t.ns p)<=t.ms p i
   by_cases e:p=q
   ·rw [if_pos e];exact fH e ps rfl i
   ·rw [if_neg e];exact (h11 i x hx).2.1
  ·rw [Yh λz=>by have:=(h11 i x hx).1;rw [z,hc] at this;injection this with this;injection this with _ this;omega]
   exact (h11 i x hx).2.2.2
 | .pick mk ps,fs,_,hpt,h=>by
  obtain ⟨M,P,as,h1,h2,h3,h4,h5,h6,h7⟩:=h;have ne:∀ {b:Addr},w.D b=none->b≠c:=λe z=>by rw [z,hc] at e;cases e
  exact ⟨M,P,as,h1,h2,h3,(Yh (ne h2.1)).trans h4,(Yh (ne h3.1)).trans h5,h6.bN hge (λe a ha=>hpt e as ⟨M,P,h1,h5⟩ a ha),h7⟩
 | .use x,fs,_,hpt,h=>One.bN h hge λe a ea=>hpt e [a] ⟨a,ea,rfl⟩ a (.head _)
theorem WI.count {C:Cs} {w:Wo} {t:Sw} {H:Hp} (h:WI C w t H) {p c:Addr} {sh:Sh} (hr:w.reg p=some sh) (hc:w.D c=some (p,0)) (hn:t.ns p<60) (fH:∀ ps,sh = .row ps->∀ i,t.ns p+1<=t.ms p i) (hpt:∀ dx c fs as,H p=some (.ins (Uc C sh) dx (mf c fs))->ur H sh fs as->∀ a∈as,pf sh (t.ns p+1)<=t.ns a):WI C w (t.bN p (t.ns p+1)) (upd H c (.lst (aX (cnt w.bk sh) (t.ns p+1)))):=by
 refine ⟨λq sh' hr'=>?_,λb hb=>?_,h.ow,h.inj⟩
 ·obtain ⟨dx,c',fs,h1,h2,h3,h4,h5,h6,h7,h8⟩:=h.at_ q sh' hr'
  have n1:q≠c:=λz=>by have:=h1.1;rw [z,hc] at this;cases this
  refine ⟨dx,c',fs,h1,h2,h3,?_,(Yh n1).trans h5,h6,?_,h8.bN hc (dm _) (λe ps e2=>?_) (λe as hP=>?_)⟩
  ·show (if q=p then _ else t.ns q)<=60
   split<;>omega
  ·show _=some (HO.lst (aX _ (if q=p then _ else t.ns q)))
   by_cases e:q=p
   ·subst e
    rw [hr] at hr'
    have:=Γ hr';subst this;rw [if_pos rfl];rw [h.inj _ _ _ h6 hc,Yc]
   ·rw [if_neg e,Yh λz=>e (by rw [z,hc] at h6;injection h6 with h6;injection h6 with h6 _;exact h6.symm)]
    exact h7
  ·subst e
   rw [hr] at hr'
   exact fH ps ((Γ hr').trans e2)
  ·subst e
   rw [hr] at hr'
   cases Γ hr'
   exact hpt dx c' fs as h5 hP
 ·by_cases e:b=c
  ·rw [e,Yc];intro z;cases z
  ·rw [Yh e];exact h.al b hb
theorem Sub.iw {C:Cs} {w:Wo} {t:Sw} {H:Hp} (inj:∀ b b' x,w.D b=some x->w.D b'=some x->b=b') {p q y:Addr} {i:Nat} {qs:List Sh} {f:Nat->Int} (hq:w.reg q=some (.row qs)) (hc:w.D y=some (q,i+1)) (hf:f=YU w.bk (qs.drop i)) (hm:t.ms q i<60) (hj:∀ j,i<j->j<=qs.length->t.ms q j=t.ms q i+1):∀ {sh:Sh} {fs:List (Str×V)},w.reg p=some sh->(p=q->∀ (P T:Addr) (as:List Addr) (a:Addr),fs=fR P T->H P=some (.lst (as.map V.ref))->as[i]?=some a->t.ms q i+1<=t.ns a)->Sub C w t H p sh fs->Sub C w (t.iw q i (t.ms q i+1)) (upd H y (.lst (aX f (t.ms q i+1)))) p sh fs
 | .w lo span,fs,_,_,h=>h
 | .t sg,fs,_,_,h=>h
 | .many s,fs,_,_,⟨a,h1,h2,h3⟩=>⟨a,h1,h2,h3⟩
 | .alike s k,fs,_,_,⟨⟨a,h1,h2,h3⟩,h⟩=>⟨⟨a,h1,h2,h3⟩,h⟩
 | .row ps,fs,hp,hpa,h=>by
  obtain ⟨P,T,dt,L,as,ws,h1,h2,h3,h4,h5,h6,h7,h8,h9,h10,h11,h12⟩:=h;have ne:∀ {b:Addr},w.D b=none->b≠y:=λe z=>by rw [z,hc] at e;cases e
  refine ⟨P,T,dt,L,as,ws,h1,h2,h3,h4,(Yh (ne h2.1)).trans h5,⟨h6.1,h6.2,λj a ha=>?_⟩,h7,(Yh (ne h3.1)).trans h8,(Yh (ne h4.1)).trans h9,h10,λj x hx=>⟨(h11 j x hx).1,?_,?_,?_⟩,h12⟩
  ·show (if p=q/\i<=j then _ else t.ms p j)<=t.ns a
   have h3:=h6.3 j a ha
   split
   ·rename_i e
    obtain ⟨rfl,hij⟩:=e;rw [hq] at hp
    cases Γ hp
    have hl:=(Η.mp ha).1;have hl2:=h6.1;by_cases e2:j=i
    ·subst e2;exact hpa rfl P T as a h1 h5 ha
    ·rw [<- hj j (by omega) (by omega)];exact h3
   ·exact h3
  ·show t.ns p<=(if p=q/\i<=j then _ else t.ms p j)
   have:=(h11 j x hx).2.1
   split
   ·rename_i e
    obtain ⟨rfl,hij⟩:=e;rw [hq] at hp
    have:=Sh.row.inj (Γ hp);subst this;have hl:=(Η.mp hx).1;by_cases e2:j=i
    ·subst e2;omega
    ·rw [<- hj j (by omega) (by omega)];exact (h11 j x hx).2.1
   ·exact this
  ·show (if p=q/\i<=j then _ else t.ms p j)<=60
   have:=(h11 j x hx).2.2.1
   split<;>omega
  ·show _=some (HO.lst (aX _ (if p=q/\i<=j then _ else t.ms p j)))
   by_cases e:p=q/\i<=j
   ·obtain ⟨rfl,hij⟩:=e
    rw [hq] at hp
    have:=Sh.row.inj (Γ hp);subst this;rw [if_pos ⟨rfl,hij⟩];by_cases e2:j=i
    ·subst e2
     rw [inj _ _ _ (h11 j x hx).1 hc,Yc,hf]
    ·have hl:=(Η.mp hx).1
     rw [Yh λz=>e2 ?_,<- hj j (by omega) (by omega)]
     ·exact (h11 j x hx).2.2.2
     ·have:=(h11 j x hx).1
      rw [z,hc] at this
      injection this with this
      injection this with t1 t2
      omega
   ·rw [if_neg e,Yh λz=>e ?_]
    ·exact (h11 j x hx).2.2.2
    ·have:=(h11 j x hx).1
     rw [z,hc] at this
     injection this with this
     injection this with t1 t2
     exact ⟨t1.symm,by omega⟩
 | .pick mk ps,fs,_,_,h=>by
  obtain ⟨M,P,as,h1,h2,h3,h4,h5,h6,h7⟩:=h;have ne:∀ {b:Addr},w.D b=none->b≠y:=λe z=>by rw [z,hc] at e;cases e
  exact ⟨M,P,as,h1,h2,h3,(Yh (ne h2.1)).trans h4,(Yh (ne h3.1)).trans h5,⟨h6.1,h6.2,h6.3⟩,h7⟩
 | .use x,fs,_,_,⟨a,h1,h2,h3⟩=>⟨a,h1,h2,h3⟩
theorem WI.way {C:Cs} {w:Wo} {t:Sw} {H:Hp} (h:WI C w t H) {q y:Addr} {i:Nat} {qs:List Sh} (hq:w.reg q=some (.row qs)) (hc:w.D y=some (q,i+1)) (hm:t.ms q i<60) (hj:∀ j,i<j->j<=qs.length->t.ms q j=t.ms q i+1) (hpa:∀ a,Ut C H q i a->t.ms q i+1<=t.ns a):WI C w (t.iw q i (t.ms q i+1)) (upd H y (.lst (aX (YU w.bk (qs.drop i)) (t.ms q i+1)))):=by
 refine ⟨λp sh hp=>?_,λb hb=>?_,h.ow,h.inj⟩
 ·obtain ⟨dx,c,fs,h1,h2,h3,h4,h5,h6,h7,h8⟩:=h.at_ p sh hp
  have n1:p≠y:=λz=>by have:=h1.1;rw [z,hc] at this;cases this
  have n2:c≠y:=λz=>by rw [z,hc] at h6;injection h6 with h6;injection h6 with _ h6;omega
  exact ⟨dx,c,fs,h1,h2,h3,h4,(Yh n1).trans h5,h6,(Yh n2).trans h7,h8.iw h.inj hq hc rfl hm hj hp λe P T as a e1 e2 e3=>hpa a ⟨dx,c,P,T,as,by subst e;rw [hq] at hp;cases Γ hp;rw [<- e1];exact h5,e2,e3⟩⟩
 ·by_cases e:b=y
  ·rw [e,Yc];intro z;cases z
  ·rw [Yh e];exact h.al b hb
def bnd (s d:Nat) (sh:Sh):Nat:=if dep sh<d then s+1 else s
def f9 (t:Sw) (p:Addr):Prop:=∀ i,t.ms p i=t.ms p 0
structure gj (t t':Sw) (p:Addr) (b:Nat):Prop where
 up:t.ns p<=t'.ns p
 le:t'.ns p<=max (t.ns p) b
 no:b<=t.ns p->t'.ms p=t.ms p
 un:f9 t p->f9 t' p
theorem gj.refl (t:Sw) (p:Addr) (b:Nat):gj t t p b:=⟨Κ _,Nat.le_max_left _ _,λ_=>rfl,λh=>h⟩
theorem gj.trans {t t1 t2:Sw} {p:Addr} {b:Nat} (a:gj t t1 p b) (c:gj t1 t2 p b):gj t t2 p b:=by
 have h1:=a.up;have h2:=c.up;have h3:=a.le;have h4:=c.le;exact ⟨by omega,by omega,λh=>by rw [c.no (by omega),a.no h],λh=>c.un (a.un h)⟩
theorem gj.mono {t t1:Sw} {p:Addr} {b b':Nat} (a:gj t t1 p b) (h:b<=b'):gj t t1 p b':=⟨a.up,by have:=a.le;omega,λz=>a.no (by omega),a.un⟩
theorem Ho {s d s' d':Nat} (h:s'<s\/(s'=s/\d'<=d)) (sh:Sh):bnd s' d' sh<=bnd s d sh:=by
 unfold bnd
 split<;>split<;>omega
def Fr (w:Wo) (H H':Hp):Prop:=∀ b o,w.D b=none->H b=some o->H' b=some o
structure Tr (C:Cs) (w:Wo) (t:Sw) (H:Hp) (t':Sw) (H':Hp) (s d:Nat):Prop where
 wi:WI C w t' H'
 fr:Fr w H H'
 gr:∀ p sh,w.reg p=some sh->gj t t' p (bnd s d sh)
 u1:∀ b,t.U b->t'.U b
 u2:∀ b,t'.U b->t.U b\/H b=none
def Xk (w:Wo) (t:Sw) (s d:Nat):Prop:=∀ p sh,w.reg p=some sh->t.ns p<bnd s d sh->f9 t p
theorem Xk.mono {w:Wo} {t:Sw} {s d s' d':Nat} (h:Xk w t s d) (c:s'<s\/(s'=s/\d'<=d)):Xk w t s' d':=λp sh hr hn=>h p sh hr (τ hn (Ho c sh))
theorem Tr.refl {C:Cs} {w:Wo} {t:Sw} {H:Hp} (h:WI C w t H) (s d:Nat):Tr C w t H t H s d:=⟨h,λ_ _ _ e=>e,λp sh _ => .refl _ _ _,λ_ h=>h,λ_ h => .inl h⟩
theorem Tr.alloc {C:Cs} {w:Wo} {t t':Sw} {H H':Hp} {s d:Nat} (T:Tr C w t H t' H' s d) {b:Addr} {o:HO} (h:H b=some o):H' b≠none:=by
 cases e:w.D b with
 | none=>rw [T.fr b o e h];intro z;cases z
 | some x=>exact T.wi.al b (T.wi.ow b x e)
theorem Tr.trans {C:Cs} {w:Wo} {t t1 t2:Sw} {H H1 H2:Hp} {s d:Nat} (a:Tr C w t H t1 H1 s d) (b:Tr C w t1 H1 t2 H2 s d):Tr C w t H t2 H2 s d :=
 ⟨b.wi,λc o e h=>b.fr c o e (a.fr c o e h),λp sh hr=>(a.gr p sh hr).trans (b.gr p sh hr),λc h=>b.u1 c (a.u1 c h),λc h=>by
  rcases b.u2 c h with h | h
  ·exact a.u2 c h
  ·cases e:H c with
   | none=>exact .inr rfl
   | some o=>exact absurd h (a.alloc e)⟩
theorem Tr.mono {C:Cs} {w:Wo} {t t1:Sw} {H H1:Hp} {s d s' d':Nat} (a:Tr C w t H t1 H1 s' d') (c:s'<s\/(s'=s/\d'<=d)):Tr C w t H t1 H1 s d:=⟨a.wi,a.fr,λp sh hr=>(a.gr p sh hr).mono (Ho c sh),a.u1,a.u2⟩
theorem Tr.same {C:Cs} {w:Wo} {t t1:Sw} {H H1 H2:Hp} {s d:Nat} (a:Tr C w t H t1 H1 s d) (b:Yj H1 H2):Tr C w t H t1 H2 s d:=⟨a.wi.same b,λc o e h=>b _ _ (a.fr c o e h),a.gr,a.u1,a.u2⟩
theorem Tr.put {C:Cs} {w:Wo} {t t1:Sw} {H H1:Hp} {s d:Nat} (a:Tr C w t H t1 H1 s d) {x:Addr} (h:H x=none) (n:¬ t1.U x) (o:HO):Tr C w t H t1 (upd H1 x o) s d:=⟨a.wi.loc n o,λc u e z=>by rw [Yh (Ym z h)];exact a.fr c u e z,a.gr,a.u1,a.u2⟩
theorem Tr.ready {C:Cs} {w:Wo} {t t1:Sw} {H H1:Hp} {s d s' d':Nat} (a:Tr C w t H t1 H1 s' d') (r:Xk w t s d):Xk w t1 s d:=λp sh hr hn=>(a.gr p sh hr).un (r p sh hr (gi (a.gr p sh hr).up hn))
theorem Tr.ours {C:Cs} {w:Wo} {t t1:Sw} {H H1:Hp} {s d:Nat} (a:Tr C w t H t1 H1 s d) {x:Addr} {o:HO} (n:¬ t.U x) (h:H x=some o):¬ t1.U x:=λz=>by
 rcases a.u2 x z with z | z
 ·exact n z
 ·rw [h] at z;cases z
structure dz (C:Cs) (w:Wo) (t:Sw) (H:Hp) (t':Sw) (H':Hp) (s d:Nat) (p:Addr):Prop where
 wi:WI C w t' H'
 fr:Fr w H H'
 gr:∀ q sh,w.reg q=some sh->q≠p->gj t t' q (bnd s d sh)
 own:t'.ns p=t.ns p
 u1:∀ b,t.U b->t'.U b
 u2:∀ b,t'.U b->t.U b\/H b=none
theorem Tr.b {C:Cs} {w:Wo} {t t':Sw} {H H':Hp} {s d:Nat} {p:Addr} (T:Tr C w t H t' H' s d) (h:t'.ns p=t.ns p):dz C w t H t' H' s d p:=⟨T.wi,T.fr,λq sh hq _=>T.gr q sh hq,h,T.u1,T.u2⟩
theorem dz.trans {C:Cs} {w:Wo} {t t1 t2:Sw} {H H1 H2:Hp} {s d:Nat} {p:Addr} (a:dz C w t H t1 H1 s d p) (b:dz C w t1 H1 t2 H2 s d p):dz C w t H t2 H2 s d p :=
 ⟨b.wi,λc o e h=>b.fr c o e (a.fr c o e h),λq sh hr n=>(a.gr q sh hr n).trans (b.gr q sh hr n),b.own.trans a.own,λc h=>b.u1 c (a.u1 c h),λc h=>by
  rcases b.u2 c h with h | h
  ·exact a.u2 c h
  ·cases e:H c with
   | none=>exact .inr rfl
   | some o =>
    exfalso
    cases e2:w.D c with
    | none=>rw [a.fr c o e2 e] at h;cases h
    | some x=>exact a.wi.al c (a.wi.ow c x e2) h⟩
theorem dz.same {C:Cs} {w:Wo} {t t1:Sw} {H H1 H2:Hp} {s d:Nat} {p:Addr} (a:dz C w t H t1 H1 s d p) (b:Yj H1 H2):dz C w t H t1 H2 s d p:=⟨a.wi.same b,λc o e h=>b _ _ (a.fr c o e h),a.gr,a.own,a.u1,a.u2⟩
theorem dz.ready {C:Cs} {w:Wo} {t t1:Sw} {H H1:Hp} {s d s' d':Nat} {p:Addr} {sh:Sh} (a:dz C w t H t1 H1 s' d' p) (hg:w.reg p=some sh) (hb:bnd s d sh<=t.ns p) (r:Xk w t s d):Xk w t1 s d:=λq sh' hr hn=>by
 by_cases e:q=p
 ·subst e
  rw [hg] at hr
  have:=Γ hr;subst this;have:=a.own;omega
 ·exact (a.gr q sh' hr e).un (r q sh' hr (gi (a.gr q sh' hr e).up hn))
theorem dz.way {C:Cs} {w:Wo} {t t1:Sw} {H H1:Hp} {s d i:Nat} {p y:Addr} {ps:List Sh} (a:dz C w t H t1 H1 s d p) (hg:w.reg p=some (.row ps)) (hc:w.D y=some (p,i+1)) (hi:t1.ms p i=s) (hs:s<60) (hj:∀ j,i<j->j<=ps.length->t1.ms p j=s+1) (hpa:∀ a,Ut C H1 p i a->s+1<=t1.ns a):dz C w t H (t1.iw p i (s+1)) (upd H1 y (.lst (aX (YU w.bk (ps.drop i)) (s+1)))) s d p:=by
 have W:=a.wi.way hg hc (by omega) (λj h1 h2=>by rw [hi];exact hj j h1 h2) (λa ha=>by rw [hi];exact hpa a ha);rw [hi] at W
 refine ⟨W,λb o e h=>?_,λq sh hq n=>?_,a.own,a.u1,a.u2⟩
 ·rw [Yh λz=>by rw [z,hc] at e;cases e]
  exact a.fr b o e h
 ·have g:=a.gr q sh hq n
  have e:(t1.iw p i (s+1)).ms q=t1.ms q:=by
   funext j
   exact if_neg λz=>n z.1
  exact ⟨g.up,g.le,λh=>by rw [e];exact g.no h,λh j=>by rw [e];exact g.un h j⟩
theorem dz.to {C:Cs} {w:Wo} {t t1:Sw} {H H1:Hp} {s d:Nat} {p:Addr} {sh:Sh} (a:dz C w t H t1 H1 s d p) (hg:w.reg p=some sh) (hd:dep sh<d) (hn:t.ns p<=s) (hu:f9 t1 p):Tr C w t H t1 H1 s d:=by
 refine ⟨a.wi,a.fr,λq sh' hq=>?_,a.u1,a.u2⟩;by_cases e:q=p
 ·subst e
  rw [hg] at hq
  have:=Γ hq;subst this;have eb:bnd s d sh=s+1:=if_pos hd;rw [eb];have:=a.own;exact ⟨by omega,by omega,λz=>by omega,λ_=>hu⟩
 ·exact a.gr q sh' hq e
def kind:Sh->Nat
 | .w _ _=>0
 | .t _=>1
 | .row _=>2
 | .pick _ _=>3
 | .many _=>4
 | .use _=>5
 | .alike _ _=>6
def fns:List Str:=["counts","low","span","signs","parts","table","ways","marks","part","named","times"]
def isF (m:Str):Bool:=fns.any λx=>m==x
theorem YgO {m:Str} (h:isF m=false):∀ x∈fns,(m==x)=false:=λx hx=>ek.mpr λz=>by
 have:isF m=true:=List.any_eq_true.mpr ⟨x,hx,z⟩;rw [this] at h
 cases h
theorem QE {m:Str} (hm:isF m=false):∀ {fs:List (Str×V)},(∀ p∈fs,p.1∈fns)->fs.lookup m=none
 | [],_=>rfl
 | (x,v)::fs,h=>by
  rw [Υ,YgO hm x (h _ (.head _))];exact QE hm λp hp=>h p (.tail _ hp)
theorem X7 (c:Addr) (fs:List (Str×V)):(mf c fs).lookup ("counts":Str)=some (.ref c):=rfl
theorem Wi {C:Cs} {w:Wo} {t:Sw} {H:Hp} {p c:Addr} {m:Str} (hm:isF m=false) {sh:Sh} {fs:List (Str×V)} (h:Sub C w t H p sh fs):(mf c fs).lookup m=none:=by
 refine QE hm λq hq=>?_
 rcases Φ.mp hq with rfl | hq
 ·exact .head _
 have e:fs.map (·.1)∈([["low","span"],["signs"],["parts","table"],["marks","parts"],["part"],["part","times"],["named"]]:List (List Str)):=by
  cases sh with
  | w lo span=>rw [show fs=_ from h];exact .head _
  | t sg=>rw [show fs=_ from h.1];exact .tail _ (.head _)
  | row ps=>obtain ⟨P,T,dt,L,as,ws,rfl,_⟩:=h;exact .tail _ (.tail _ (.head _))
  | pick mk ps=>obtain ⟨M,P,as,rfl,_⟩:=h;exact .tail _ (.tail _ (.tail _ (.head _)))
  | many q=>obtain ⟨a,rfl,_⟩:=h;exact .tail _ (.tail _ (.tail _ (.tail _ (.head _))))
  | alike q n=>obtain ⟨⟨a,rfl,_⟩,_⟩:=h;exact .tail _ (.tail _ (.tail _ (.tail _ (.tail _ (.head _)))))
  | use x=>obtain ⟨a,rfl,_⟩:=h;exact .tail _ (.tail _ (.tail _ (.tail _ (.tail _ (.tail _ (.head _))))))
 have all:∀ l∈([["low","span"],["signs"],["parts","table"],["marks","parts"],["part"],["part","times"],["named"]]:List (List Str)),∀ x∈l,x∈fns:=by decide +kernel
 exact all _ e _ (List.mem_map_of_mem hq)
def fu (w:Wo) (s d:Nat):Nat:=5*(s*(w.M+1)+d)
theorem Vm {w:Wo} {s d s' d':Nat} (hd:d'<=w.M) (h:s'<s\/(s'=s/\d'<d)):fu w s' d'+5<=fu w s d:=by
 unfold fu;rcases h with h | ⟨rfl,h⟩
 ·have:=c8 (w.M+1) (show s'+1<=s from h)
  rw [Nat.add_mul] at this
  omega
 ·omega
inductive ZO (C:Cs) (k l:Nat) (vs:List V) (H:Hp) (Q:VK) (E_:XK):Prop
 | mk (w:Wo) (t:Sw) (p:Addr) (sh:Sh) (s:Nat) (h0:vs=[.ref p,.int s]) (h1:kind sh=k) (h2:WI C w t H) (h3:w.reg p=some sh) (h4:1<=l) (h5:s<=40) (h6:(s<t.ns p->Q (.int (cnt w.bk sh s)) H)) (h7:(t.ns p<=s->fu w s (dep sh)+5<=l/\Xk w t s (dep sh+1)/\∀ t' H',Tr C w t H t' H' s (dep sh+1)->t'.ns p=s+1->Q (.int (cnt w.bk sh s)) H'))
def zK (C:Cs) (t:Sw) (H:Hp) (p:Addr) (sh:Sh) (n:Nat):Prop:=∀ dx c fs as,H p=some (.ins (Uc C sh) dx (mf c fs))->ur H sh fs as->∀ a∈as,pf sh n<=t.ns a
inductive aO (C:Cs) (k l:Nat) (vs:List V) (H:Hp) (Q:VK) (E_:XK):Prop
 | mk (w:Wo) (t:Sw) (p:Addr) (sh:Sh) (s:Nat) (h0:vs=[.ref p,.int s]) (h1:kind sh=k) (h2:WI C w t H) (h3:w.reg p=some sh) (h4:t.ns p=s) (h5:s<=40) (h6:fu w s (dep sh)+4<=l) (h7:Xk w t s (dep sh+1)) (h8:∀ t' H',Tr C w t H t' H' s (dep sh+1)->t'.ns p=s->(∀ ps,sh = .row ps->∀ i,s+1<=t'.ms p i)->zK C t' H' p sh (s+1)->Q (.int (cnt w.bk sh s)) H')
theorem ZB {C:Cs} {k:Nat} {vs:List V} {H:Hp} {Q:VK} {E:XK} (h:ZO C k 0 vs H Q E):False:=by
 obtain ⟨w,t,p,sh,s,_,_,_,_,h,_⟩:=h;omega
theorem Ws {C:Cs} {k:Nat} {vs:List V} {H:Hp} {Q:VK} {E:XK} (h:aO C k 0 vs H Q E):False:=by
 obtain ⟨w,t,p,sh,s,_,_,_,_,_,_,h,_⟩:=h;omega
theorem Tr.own {C:Cs} {w:Wo} {t t':Sw} {H H':Hp} {s d:Nat} (T:Tr C w t H t' H' s d) {p:Addr} {sh:Sh} (hr:w.reg p=some sh) (hd:d<=dep sh) (hs:s<=t.ns p):t'.ns p=t.ns p/\t'.ms p=t.ms p:=by
 have g:=T.gr p sh hr;have e:bnd s d sh=s:=if_neg (by omega);rw [e] at g
 have h1:=g.up;have h2:=g.le;exact ⟨by omega,g.no hs⟩
theorem Tr.count {C:Cs} {w:Wo} {t t':Sw} {H H':Hp} {s j:Nat} {sh:Sh} {p c:Addr} (T:Tr C w t H t' H' s (dep sh+1)) (hr:w.reg p=some sh) (hc:w.D c=some (p,0)) (hj:t'.ns p=j) (hjs:j<=s) (hs:s<=40) (fH:∀ ps,sh = .row ps->∀ i,j+1<=t'.ms p i) (hpt:zK C t' H' p sh (j+1)):Tr C w t H (t'.bN p (j+1)) (upd H' c (.lst (aX (cnt w.bk sh) (j+1)))) s (dep sh+1):=by
 subst hj;refine ⟨T.wi.count hr hc (by omega) fH hpt,λb o e h=>?_,λq sh' hq=>?_,T.u1,T.u2⟩
 ·rw [Yh λz=>by rw [z,hc] at e;cases e]
  exact T.fr b o e h
 ·have g:=T.gr q sh' hq
  by_cases e:q=p
  ·subst e
   rw [hr] at hq
   have:=Γ hq;subst this;have eb:bnd s (dep sh+1) sh=s+1:=if_pos (by omega);rw [eb] at g ⊢
   have h1:=g.up;have en:(t'.bN q (t'.ns q+1)).ns q=t'.ns q+1:=if_pos rfl;exact ⟨by rw [en];omega,by rw [en];omega,λh=>by omega,g.un⟩
  ·have en:(t'.bN p (t'.ns p+1)).ns q=t'.ns q:=if_neg e
   exact ⟨by rw [en];exact g.up,by rw [en];exact g.le,g.no,g.un⟩
variable {m:Nat}
theorem CT {w:Wo} {s d s':Nat} (h:s'<=s):fu w s' d<=fu w s d:=by
 unfold fu;have:=c8 (w.M+1) h;omega
theorem XU {k:Nat} {Z0:Addr} {CS:Cs} {kx:Nat} (hC0:∀ sh,kind sh=kx->Uc CS sh=Z0) (R:g.aD Z0 "count_at" "Maker.count_at" uq ["self","size"]) (zL:g.Me k Z0 "reckoned" ["self","size"] (aO CS kx m)) (au:g.mg "len"=none) (Z8:Cls g.K Z0) (Zg:Yf g.K Z0 "counts"):g.Me (k+1) Z0 "count_at" ["self","size"] (ZO CS kx (m+1)):=by
 refine R.me Z3B (λvs H Q E h=>by obtain ⟨w,t,p,sh,sz,rfl,hk,W,hg,hl,hs,q1,q2⟩:=h;rfl) λf_ cdv A outer s H vs Q E hr h=>?_
 obtain ⟨w,t,p,sh,sz,rfl,hk,W,hg,hl,hs,q1,q2⟩:=h;refine ⟨_,(Ye (WW ai (Yq vU (YN au YL (Ya (Yv (pv 0) rfl) Yd)) (pv 1) (Ys _)) (Yi (YY (Wy de eL eK Xm (Yv (pv 0) rfl) (Ya (Xx zL Z8 hr (pv 0) (Ya (YN au YL (Ya (Yv (pv 0) rfl) Yd)) Yd)) Yd))))) (Yi (Yn (Yr YQ (Yv (pv 0) rfl) (pv 1))))),?_⟩;walk_at "rd";have hC:=hC0 sh hk;by_cases cs:sz<t.ns p
 ·obtain ⟨dx,c,fs,hU,hd,hsm,hns,hp,bQ,hc,hsub⟩:=W.at_ p sh hg
  rw [hC] at hp
  refine X4 (α:=Unit) (λx σ H'=>σ=[some (.ref p),some (.int sz)]/\H=H') (λx=>false) (λx=>0) () ⟨rfl,rfl⟩ ?_ ?_ ?_
  ·rintro x σ H' ⟨rfl,rfl⟩ R r
   walk_at "rd";refine ⟨_,_,_,hp,Z8,Zg,_,X7 _ _,_,rfl,_,.inl (ao.of hc),?_⟩;rw [Xr,dle,decide_eq_false (by omega)];exact r H ⟨rfl,rfl⟩
  ·rintro x σ H' ⟨rfl,rfl⟩ hd
   cases hd
  ·rintro x σ H' ⟨rfl,rfl⟩ hd
   walk_at "rd";exact ⟨_,_,_,hp,Z8,Zg,_,X7 _ _,_,rfl,_,ao.of hc,_,Us _ cs,q1 cs⟩
 ·obtain ⟨hfu,hRd,q⟩:=q2 (by omega)
  refine X4 (α:=Sw) (λx σ H'=>σ=[some (.ref p),some (.int sz)]/\Tr CS w t H x H' sz (dep sh+1)/\x.ns p<=sz+1) (λx=>decide (x.ns p<=sz)) (λx=>sz+1 - x.ns p) t ⟨rfl,.refl W _ _,by omega⟩ ?_ ?_ ?_
  ·rintro x σ H' ⟨rfl,T,hx⟩ R r
   obtain ⟨dx,c,fs,hU,hd,hsm,hns,hp,bQ,hc,hsub⟩:=T.wi.at_ p sh hg;rw [hC] at hp
   walk_at "rd";refine ⟨_,_,_,hp,Z8,Zg,_,X7 _ _,_,rfl,_,.inl (ao.of hc),?_⟩;rw [Xr,dle];exact r H' ⟨rfl,T,hx⟩
  ·rintro x σ H' ⟨rfl,T,hx⟩ hd
   have hd:x.ns p<=sz:=of_decide_eq_true hd;obtain ⟨dx,c,fs,hU,hd',hsm,hns,hp,bQ,hc,hsub⟩:=T.wi.at_ p sh hg;rw [hC] at hp
   walk_at "rd";refine ⟨_,_,_,hp,Z8,Zg,_,X7 _ _,.inl ⟨rfl,_,ao.of hc⟩,_,_,hp,Wi (by decide +kernel) hsub,_,_,_,hp,Z8,Zg,_,X7 _ _,_,rfl,_,.inl (ao.of hc),?_⟩;rw [Xr];have hfl:=CT (w:=w) (d:=dep sh) hd;have hrd:Xk w x (x.ns p) (dep sh+1):=(T.ready hRd).mono (by omega);refine ⟨w,x,p,sh,x.ns p,rfl,hk,T.wi,hg,rfl,by omega,by omega,hrd,λt2 H2 T2 e2 fH hpt=>?_⟩;have T3:=T.trans (T2.mono (by omega));obtain ⟨Hq,c2,fs2,uw,hd2,afc,afd,hp2,zM,hc2,hsub2⟩:=T2.wi.at_ p sh hg;have ec:=T2.wi.inj _ _ _ zM bQ;subst ec;rw [e2] at hc2
   have T4:=T3.count hg zM e2 hd hs fH hpt;refine ⟨_,rfl,_,hc2,by rw [Xr];exact few (by omega),t2.bN p (x.ns p+1),?_,?_,?_⟩
   ·rw [<- Vb];exact T4
   ·show (if p=p then _ else _)<=_
    rw [if_pos rfl];omega
   ·show sz+1 - (if p=p then _ else _)<_
    rw [if_pos rfl];omega
  ·rintro x σ H' ⟨rfl,T,hx⟩ hd
   have hd:¬ x.ns p<=sz:=of_decide_eq_false hd;obtain ⟨dx,c,fs,hU,hd',hsm,hns,hp,bQ,hc,hsub⟩:=T.wi.at_ p sh hg;rw [hC] at hp
   walk_at "rd";exact ⟨_,_,_,hp,Z8,Zg,_,X7 _ _,_,rfl,_,ao.of hc,_,Us _ (by omega),q x H' T (by omega)⟩
theorem Hr {k:Nat} {Z1 Z3 Z2 Z5 Z6 Z4 Z7 Z0:Addr} (R:g.aD Z0 "count_at" "Maker.count_at" uq ["self","size"]) (zL:g.Me k Z0 "reckoned" ["self","size"] (aO (Cs.mk Z0 Z4 Z5 Z6 Z2 Z3 Z1 Z7) 0 m)) (au:g.mg "len"=none) (Z8:Cls g.K Z0) (Zg:Yf g.K Z0 "counts") (ZE:Yf g.K Z0 "low") (Zz:Yf g.K Z0 "span"):g.Me (k+1) Z0 "count_at" ["self","size"] (ZO (Cs.mk Z0 Z4 Z5 Z6 Z2 Z3 Z1 Z7) 0 (m+1)):=XU (λsh hk=>by cases sh<;>(first|rfl|cases hk)) R zL au Z8 Zg
theorem Hs {k:Nat} {Z1 Z3 Z2 Z5 Z6 Z4 Z7 Z0:Addr} (R:g.aD Z4 "count_at" "Maker.count_at" GX ["self","size"]) (Z4h:g.Me k Z4 "reckoned" ["self","size"] (aO (Cs.mk Z0 Z4 Z5 Z6 Z2 Z3 Z1 Z7) 1 m)) (au:g.mg "len"=none) (Zd:Cls g.K Z4) (ZA:Yf g.K Z4 "counts") (Zr:Yf g.K Z4 "signs"):g.Me (k+1) Z4 "count_at" ["self","size"] (ZO (Cs.mk Z0 Z4 Z5 Z6 Z2 Z3 Z1 Z7) 1 (m+1)):=XU (λsh hk=>by cases sh<;>(first|rfl|cases hk)) R Z4h au Zd ZA
theorem Ht {k:Nat} {Z1 Z3 Z2 Z5 Z6 Z4 Z7 Z0:Addr} (R:g.aD Z5 "count_at" "Maker.count_at" GZ ["self","size"]) (Z4O:g.Me k Z5 "reckoned" ["self","size"] (aO (Cs.mk Z0 Z4 Z5 Z6 Z2 Z3 Z1 Z7) 2 m)) (au:g.mg "len"=none) (Zf:Cls g.K Z5) (ZD:Yf g.K Z5 "counts") (ZF:Yf g.K Z5 "parts") (ZC:Yf g.K Z5 "table"):g.Me (k+1) Z5 "count_at" ["self","size"] (ZO (Cs.mk Z0 Z4 Z5 Z6 Z2 Z3 Z1 Z7) 2 (m+1)):=XU (λsh hk=>by cases sh<;>(first|rfl|cases hk)) R Z4O au Zf ZD
theorem Hu {k:Nat} {Z1 Z3 Z2 Z5 Z6 Z4 Z7 Z0:Addr} (R:g.aD Z2 "count_at" "Maker.count_at" G4 ["self","size"]) (Z4i:g.Me k Z2 "reckoned" ["self","size"] (aO (Cs.mk Z0 Z4 Z5 Z6 Z2 Z3 Z1 Z7) 3 m)) (au:g.mg "len"=none) (Zb:Cls g.K Z2) (Zp:Yf g.K Z2 "counts") (Zs:Yf g.K Z2 "marks") (Zm:Yf g.K Z2 "parts"):g.Me (k+1) Z2 "count_at" ["self","size"] (ZO (Cs.mk Z0 Z4 Z5 Z6 Z2 Z3 Z1 Z7) 3 (m+1)):=XU (λsh hk=>by cases sh<;>(first|rfl|cases hk)) R Z4i au Zb Zp
theorem Hv {k:Nat} {Z1 Z3 Z2 Z5 Z6 Z4 Z7 Z0:Addr} (R:g.aD Z3 "count_at" "Maker.count_at" G5 ["self","size"]) (Z4j:g.Me k Z3 "reckoned" ["self","size"] (aO (Cs.mk Z0 Z4 Z5 Z6 Z2 Z3 Z1 Z7) 4 m)) (au:g.mg "len"=none) (Zc:Cls g.K Z3) (Zq:Yf g.K Z3 "counts") (Zt:Yf g.K Z3 "part"):g.Me (k+1) Z3 "count_at" ["self","size"] (ZO (Cs.mk Z0 Z4 Z5 Z6 Z2 Z3 Z1 Z7) 4 (m+1)):=XU (λsh hk=>by cases sh<;>(first|rfl|cases hk)) R Z4j au Zc Zq
theorem Hw {k:Nat} {Z1 Z3 Z2 Z5 Z6 Z4 Z7 Z0:Addr} (R:g.aD Z7 "count_at" "Maker.count_at" G7 ["self","size"]) (Z4P:g.Me k Z7 "reckoned" ["self","size"] (aO (Cs.mk Z0 Z4 Z5 Z6 Z2 Z3 Z1 Z7) 5 m)) (au:g.mg "len"=none) (Ze:Cls g.K Z7) (Zv:Yf g.K Z7 "counts") (Zn:Yf g.K Z7 "named"):g.Me (k+1) Z7 "count_at" ["self","size"] (ZO (Cs.mk Z0 Z4 Z5 Z6 Z2 Z3 Z1 Z7) 5 (m+1)):=XU (λsh hk=>by cases sh<;>(first|rfl|cases hk)) R Z4P au Ze Zv
theorem Hx {k:Nat} {Z1 Z3 Z2 Z5 Z6 Z4 Z7 Z0:Addr} (R:g.aD Z1 "count_at" "Maker.count_at" G6 ["self","size"]) (Z3P:g.Me k Z1 "reckoned" ["self","size"] (aO (Cs.mk Z0 Z4 Z5 Z6 Z2 Z3 Z1 Z7) 6 m)) (au:g.mg "len"=none) (Za:Cls g.K Z1) (Zx:Yf g.K Z1 "counts") (Zy:Yf g.K Z1 "part") (Zk:Yf g.K Z1 "times"):g.Me (k+1) Z1 "count_at" ["self","size"] (ZO (Cs.mk Z0 Z4 Z5 Z6 Z2 Z3 Z1 Z7) 6 (m+1)):=XU (λsh hk=>by cases sh<;>(first|rfl|cases hk)) R Z3P au Za Zx
inductive m9 (vs:List V) (H:Hp) (Q:VK) (E_:XK):Prop
 | mk (n:Nat) (h0:vs=[.int n]) (h1:n<=100) (h2:Q (.int (1*2^n / 2^1)) H)
theorem Z5l  (R:g.Raw "least_distance" "least_distance" xO ["size"]):g.Fn (1) "least_distance" ["size"] (m9):=by
 refine R.fn Z5i (λvs H Q E h=>by obtain ⟨n,rfl,hn,q⟩:=h;rfl) λf_ cdv A outer s H vs Q E hr h=>?_
 obtain ⟨n,rfl,hn,q⟩:=h;refine ⟨_,(Yi (Yn (Yl Pn (Yl DX Yg (pv 0)) Yg))),?_⟩;walk_at "rd";exact ⟨⟨by omega,by omega,by decide⟩,by decide,q⟩
theorem Hy {k:Nat} {Z1 Z3 Z2 Z5 Z6 Z4 Z7 Z0:Addr} (R:g.aD Z0 "reckoned" "WholeMaker.reckoned" yJ ["self","size"]) (zN:g.Fn k "least_distance" ["size"] (m9)) (gA:g.mg "max"=none) (cu:g.mg "min"=none) (Z8:Cls g.K Z0) (Zg:Yf g.K Z0 "counts") (ZE:Yf g.K Z0 "low") (Zz:Yf g.K Z0 "span"):g.Me (k+1) Z0 "reckoned" ["self","size"] (aO (Cs.mk Z0 Z4 Z5 Z6 Z2 Z3 Z1 Z7) 0 (m+1)):=by
 refine R.me GK (λvs H Q E h=>by obtain ⟨w,t,p,sh,sz,rfl,hk,W,hg,hn,hs,hf,hR,q⟩:=h;rfl) λf_ cdv A outer s H vs Q E hr h=>?_
 obtain ⟨w,t,p,sh,sz,rfl,hk,W,hg,hn,hs,hf,hR,q⟩:=h;refine ⟨_,(Ye (Yp (i:=2) GK.nd rfl (.inl rfl) (YN cu (VU rfl) (Ya (Yv (pv 0) rfl) (Ya (Yl Y2 (Yl DX Yg (pv 1)) Yg) Yd)))) (Yi (Yn (YN gA (Pr rfl) (Ya Yg (Ya (Yl YW (Yl Y2 (pv 2) (Yz zN hr (Ya (pv 1) Yd))) Yg) Yd)))))),?_⟩
 cases sh with
 | w lo span =>
  obtain ⟨dx,c,fs,hU,hd,hsm,hns,hp,bQ,hc,hsub⟩:=W.at_ p _ hg;have hsub:fs=fW lo span:=hsub;subst hsub;walk_at "rd";have:=q t H (.refl W _ _) hn (λps z=>by cases z) (λdx c fs as _ h a ha=>by rw [show as=[] from h] at ha;cases ha);rw [Hg] at this
  exact ⟨_,_,_,hp,Z8,Zz,_,rfl,⟨by omega,by omega,by decide⟩,_,rfl,sz,rfl,by omega,_,rfl,this⟩
 | _=>cases hk
theorem HB {k:Nat} {Z1 Z3 Z2 Z5 Z6 Z4 Z7 Z0:Addr} (R:g.aD Z4 "reckoned" "TextMaker.reckoned" yM ["self","size"]) (Z4k:g.Me k Z4 "count_at" ["self","size"] (ZO (Cs.mk Z0 Z4 Z5 Z6 Z2 Z3 Z1 Z7) 1 m)) (au:g.mg "len"=none) (Zd:Cls g.K Z4) (ZA:Yf g.K Z4 "counts") (Zr:Yf g.K Z4 "signs"):g.Me (k+1) Z4 "reckoned" ["self","size"] (aO (Cs.mk Z0 Z4 Z5 Z6 Z2 Z3 Z1 Z7) 1 (m+1)):=by
 refine R.me Z3K (λvs H Q E h=>by obtain ⟨w,t,p,sh,sz,rfl,hk,W,hg,hn,hs,hf,hR,q⟩:=h;rfl) λf_ cdv A outer s H vs Q E hr h=>?_
 obtain ⟨w,t,p,sh,sz,rfl,hk,W,hg,hn,hs,hf,hR,q⟩:=h;refine ⟨_,(Yi (Yn (Vt (Yq YK (pv 1) Yg (Ys _)) Yg (Yl XD (YN au WY (Ya (Yv (pv 0) rfl) Yd)) (Xx Z4k Zd hr (pv 0) (Ya (Yl Y2 (pv 1) Yg) Yd)))))),?_⟩
 cases sh with
 | t sg =>
  obtain ⟨dx,c,fs,hU,hd,hsm,hns,hp,bQ,hc,hsub⟩:=W.at_ p _ hg;obtain ⟨e,hl⟩:=id hsub;subst e;have q:=q t H (.refl W _ _) hn (λps z=>by cases z) (λdx c fs as _ h a ha=>by rw [show as=[] from h] at ha;cases ha);walk_at "rd";refine Xv (λc=>?_) (λc=>?_)
  ·have e:sz=0:=by omega
   subst e;rw [YgM] at q
   exact q
  ·obtain ⟨j,rfl⟩:∃ j,sz=j+1:=⟨sz - 1,by omega⟩
   rw [YgN] at q
   obtain ⟨n,hn1,hn2⟩:=hsm j (by omega);rw [show ((j+1:Nat):Int) - 1=(j:Int) by omega];refine ⟨_,_,_,hp,Zd,Zr,_,rfl,S sg,rfl,?_,_,_,hp,Wi (by decide +kernel) hsub,w,t,p,.t sg,j,rfl,rfl,W,hg,by omega,by omega,λ_=>⟨_,rfl,?_,?_⟩,λh=>absurd h (by omega)⟩
   ·rw [Xu];exact few (by omega)
   ·rw [Xu];exact .inl (cm (m:=7) (by omega) hn2 (by omega))
   ·rw [Xu];exact q
 | _=>cases hk
def Blk (H:Hp) (D:Addr) (ps:List (Int×Int)):Prop:=∃ xs:List V,H D=some (.lst xs)/\xs.length=ps.length/\∀ (i:Nat) x p,xs[i]?=some x->ps[i]?=some p->∃ T,x = .ref T/\H T=some (.tup [.int p.1,.int p.2])
inductive ux (K:Ι) (vs:List V) (H:Hp) (Q:VK) (E_:XK):Prop
 | mk (D:Addr) (ps:List (Int×Int)) (h0:vs=[.ref D]) (h1:Blk H D ps) (h2:ps.length<=1000) (h3:(∀ p∈ps,sm p.1/\sm p.2)) (h4:∀ H',Yj H H'->Q (.int (ps.map λp=>p.1*p.2).sum) H')
section
variable {src:List (Option Nat)} {te:TE} {σ:St} {H:Hp} {Q:VK}
theorem Yd1 {K:Ι} {tl:TE} {b:Addr} {xs:List V} (ps:List (V×V)) (ys:List V) (ha:∀ R:V->Hp->Prop,R (.ref b) H->tl σ H R) (hS:ao K H b xs) (hp:∀ (i:Nat) x p,xs[i]?=some x->ps[i]?=some p->∃ T,x = .ref T/\H T=some (.tup [p.1,p.2])) (hl:ps.length=xs.length) (hl2:ys.length=xs.length) (hlen:xs.length<=100000)
  (step:∀ (i:Nat) p y H',ps[i]?=some p->ys[i]?=some y->Yj H H'->∀ R:VK,(∀ aM,Yj H' aM->R y aM)->te (some p.1::some p.2::YB src σ) H' R)
  (fin:∀ D H',H D=none->Yj H H'->H' D=some (.lst ys)->Q (.ref D) H'):c7 (none::none::src) (Wb K tl) (Vf K 2 (XB (Yy 0) (XB (Yy 1) Vv))) XO te σ H Q:=by
 refine ha _ ⟨b,rfl,⟨xs,hS⟩,λD hD=>?_⟩;have h6:100000<sizeLine:=by decide
 refine W9 (XW.imp λH' (e:Yj H H')=>e.seq hS) (λi zs σ' H'=>zs=ys.take i/\(∃ o o',σ'=o::o'::YB src σ)/\Yj H H'/\H' D=some (.lst zs)) ⟨by simp,⟨none,none,rfl⟩,.aj hD _,Yc⟩ (λi zs σ' H' p=>⟨p.2.2.1,p.2.2.2⟩) (UB K 0 1) ?_ ?_
 ·rintro i zs σ' H' x hx ⟨rfl,⟨o,o',rfl⟩,sm,hd⟩
  have hi:=(Η.mp hx).1;have hy:ys[i]?=some (ys[i]'(by omega)):=Ε _;have hpi:ps[i]?=some (ps[i]'(by omega)):=Ε _;obtain ⟨T,rfl,hT⟩:=hp i x _ hx hpi;refine ⟨T,_,rfl,aH.of (sm _ _ hT),rfl,_,_,rfl,_,_,rfl,rfl,?_⟩;refine step i _ _ H' hpi hy sm _ λaM s2=>⟨s2 _ _ hd,?_,(Y4 hy).symm,⟨_,_,rfl⟩,.bV hD (sm.trans s2) _,Yc⟩
  rw [ay];omega
 ·rintro zs σ' H' ⟨rfl,_,sm,hd⟩
  rw [<- hl2,di] at hd
  exact fin D H' hD sm hd
end
theorem YcT  (R:g.Raw "ways_of" "ways_of" xK ["blocks"]) (iQ:g.mg "sum"=none):g.Fn (1) "ways_of" ["blocks"] (ux g.K):=by
 refine R.fn YcR (λvs H Q E h=>by obtain ⟨D,ps,rfl,⟨xs,hD,fO,hxp⟩,hl,hb,q⟩:=h;rfl) λf_ cdv A outer s H vs Q E hr h=>?_
 obtain ⟨D,ps,rfl,⟨xs,hD,fO,hxp⟩,hl,hb,q⟩:=h;refine ⟨_,(Yi (Yn (YN iQ SQ (Ya (Xt (src:=[none,none]) (N':=(["choices","rest"]:List Str)) (g:=Vf g.K 2 (XB (Yy 0) (XB (Yy 1) Vv))) (.own (.own .nil)) rfl (Xc (pv 0)) (λcl C s₀ H₀ fp pn=>(VR (n:=2) rfl (Xz (Yu (i:=0) (show ax (["choices","rest"]:List Str) by decide +kernel) rfl (.inl rfl) (.inr rfl)) (Xz (Yu (i:=1) (show ax (["choices","rest"]:List Str) by decide +kernel) rfl (.inl rfl) (.inr rfl)) Vi)))) (λcl C s₀ H₀ fp pn=>Y0) (λcl C s₀ H₀ fp pn=>(Yl XD (pv 0) (pv 1))) (by intro x hx;simp at hx)) Yd)))),?_⟩;walk_at "rd";refine Yd1 (K:=g.K) (b:=D) (xs:=xs) (ps.map λp=>(V.int p.1,V.int p.2)) (ps.map λp=>V.int (p.1*p.2)) (λR r=>by walk_at "rd";exact r) (ao.of hD) ?_ (by rw [Β];omega) (by rw [Β];omega) (by omega) ?_ ?_
 ·intro i x p hx hp
  rw [Λ] at hp
  obtain ⟨p',hp',rfl⟩:=ε.mp hp;exact hxp i x p' hx hp'
 ·intro i p y H' hp hy sm R r
  rw [Λ] at hp hy
  obtain ⟨p',hp',rfl⟩:=ε.mp hp;rw [hp'] at hy
  have:V.int (p'.1*p'.2)=y:=Γ hy;subst this;obtain ⟨⟨n1,b0,b1⟩,⟨n2,b2,b3⟩⟩:=hb p' (Τ hp');walk_at "rd";exact ⟨.inl (cm b1 b3 (by omega)),r H' (.refl _)⟩
 ·intro D' H' hD' sm hd
  refine ⟨D',rfl,ps.map λp=>p.1*p.2,ao.of (by rw [hd,bn];rfl),q H' sm⟩
def Tb (C:Cs) (H:Hp) (p T:Addr):Prop:=∃ dx c P,H p=some (.ins C.row dx (mf c (fR P T)))
inductive eX (C:Cs) (l:Nat) (vs:List V) (H:Hp) (Q:VK) (E_:XK):Prop
 | mk (w:Wo) (t:Sw) (p T:Addr) (ps:List Sh) (pl left:Nat) (h0:vs=[.ref T,.int pl,.int left]) (h1:WI C w t H) (h2:w.reg p=some (.row ps)) (h3:Tb C H p T) (h4:pl<=ps.length) (h5:left<=40) (h6:1<=l) (h7:(left<t.ms p ps.length->left<t.ms p pl/\Q (.int (YU w.bk (ps.drop pl) left)) H)) (h8:(t.ms p ps.length<=left->f9 t p/\left<=t.ns p/\fu w left (YG ps+1)+3<=l/\Xk w t left (YG ps+1)/\∀ t' H',Tr C w t H t' H' left (YG ps+2)->t'.ns p=t.ns p->f9 t' p->left<t'.ms p 0->Q (.int (YU w.bk (ps.drop pl) left)) H'))
inductive iR (C:Cs) (l:Nat) (vs:List V) (H:Hp) (Q:VK) (E_:XK):Prop
 | mk (w:Wo) (t:Sw) (p T:Addr) (ps:List Sh) (sz:Nat) (h0:vs=[.ref T,.int sz]) (h1:WI C w t H) (h2:w.reg p=some (.row ps)) (h3:Tb C H p T) (h4:(∀ i,t.ms p i=sz)) (h5:sz<=40) (h6:sz<=t.ns p) (h7:fu w sz (YG ps+1)+2<=l) (h8:Xk w t sz (YG ps+1)) (h9:∀ t' H',Tr C w t H t' H' sz (YG ps+2)->t'.ns p=t.ns p->(∀ i,t'.ms p i=sz+1)->Q .non H')
inductive pA (C:Cs) (l:Nat) (vs:List V) (H:Hp) (Q:VK) (E_:XK):Prop
 | mk (w:Wo) (t:Sw) (p T:Addr) (ps:List Sh) (pl left:Nat) (sh:Sh) (h0:vs=[.ref T,.int pl,.int left]) (h1:WI C w t H) (h2:w.reg p=some (.row ps)) (h3:Tb C H p T) (h4:ps[pl]?=some sh) (h5:left<=40) (h6:left<=t.ns p) (h7:(∀ i,pl<i->left<t.ms p i)) (h8:fu w left (YG ps+1)+1<=l) (h9:Xk w t left (YG ps+1)) (h10:∀ D t' H',Tr C w t H t' H' left (YG ps+1)->H D=none->¬ t'.U D->Blk H' D ((η (left+1)).map λf=>(cnt w.bk sh f,YU w.bk (ps.drop (pl+1)) (left - f)))->(∀ a,Ut C H p pl a->left<t'.ns a)->Q (.ref D) H')
theorem HD {C:Cs} {vs:List V} {H:Hp} {Q:VK} {E:XK} (h:eX C 0 vs H Q E):False:=by
 obtain ⟨w,t,p,T,ps,pl,left,_,_,_,_,_,_,h,_⟩:=h;omega
theorem YgP {C:Cs} {vs:List V} {H:Hp} {Q:VK} {E:XK} (h:iR C 0 vs H Q E):False:=by
 obtain ⟨w,t,p,T,ps,sz,_,_,_,_,_,_,_,h,_⟩:=h;omega
theorem YcU {C:Cs} {vs:List V} {H:Hp} {Q:VK} {E:XK} (h:pA C 0 vs H Q E):False:=by
 obtain ⟨w,t,p,T,ps,pl,left,sh,_,_,_,_,_,_,_,_,h,_⟩:=h;omega
theorem VI {as bs:List Addr} (h:as.map V.ref=bs.map V.ref):as=bs:=by
 induction as generalizing bs with
 | nil=>cases bs with
  | nil=>rfl
  | cons b bs=>simp at h
 | cons a as ih=>cases bs with
  | nil=>simp at h
  | cons b bs =>
   rw [aa,aa] at h
   injection h with h1 h2
   rw [V.ref.inj h1,ih h2]
theorem QF {c c' P P' T T':Addr} (h:mf c (fR P T)=mf c' (fR P' T')):P=P'/\T=T':=by
 unfold mf fR at h
 injection h with _ h
 injection h with h1 h
 injection h with h2 _
 injection h1 with _ h1
 injection h2 with _ h2
 exact ⟨V.ref.inj h1,V.ref.inj h2⟩
theorem Yd2 {C:Cs} {w:Wo} {t:Sw} {H H':Hp} {p a:Addr} {i:Nat} {ps:List Sh} (W:WI C w t H) (hg:w.reg p=some (.row ps)) (fr:Fr w H H') (h:Ut C H' p i a):Ut C H p i a:=by
 obtain ⟨dx,c,fs,hU,hd,hsm,hns,hp,bQ,hc,hsub⟩:=W.at_ p _ hg;obtain ⟨P,T',dt,L,as,ws,rfl,h2,h3,h4,h5,h6,_⟩:=hsub;obtain ⟨bR,c',P',T'',bs,e1,e2,e3⟩:=h;rw [fr _ _ hU.1 hp] at e1
 have e:=Γ e1
 injection e with _ _ e
 obtain ⟨rfl,_⟩:=QF e;rw [fr _ _ h2.1 h5] at e2
 have e:=Γ e2
 injection e with e
 cases VI e
 exact ⟨dx,c,P,T',as,hp,h5,e3⟩
theorem HF {C:Cs} {w:Wo} {t:Sw} {H:Hp} {p T P dt L a:Addr} {i:Nat} {as:List Addr} {ps:List Sh} (W:WI C w t H) (hg:w.reg p=some (.row ps)) (hTb:Tb C H p T) (hT:H T=some (.ins C.tab dt (Wr P L))) (hP:H P=some (.lst (as.map V.ref))) (h:Ut C H p i a):as[i]?=some a:=by
 obtain ⟨dx,c,fs,hU,hd,hsm,hns,hp,bQ,hc,hsub⟩:=W.at_ p _ hg;obtain ⟨P1,T1,dt1,L1,as1,ws,rfl,h2,h3,h4,h5,h6,h7,h8,_⟩:=hsub;obtain ⟨Hq,c2,P2,hp2⟩:=hTb;rw [hp] at hp2
 have e:=Γ hp2
 injection e with _ _ e
 obtain ⟨_,rfl⟩:=QF e;rw [h8] at hT
 have e:=Γ hT
 injection e with _ _ e
 unfold Wr at e
 injection e with e _
 injection e with _ e
 cases V.ref.inj e
 obtain ⟨bR,c',P',T'',bs,e1,e2,e3⟩:=h;rw [hp] at e1
 have e:=Γ e1
 injection e with _ _ e
 obtain ⟨rfl,_⟩:=QF e;rw [hP] at e2
 have e:=Γ e2
 injection e with e
 cases VI e
 exact e3
theorem Vn {C:Cs} {w:Wo} {t:Sw} {H:Hp} {p T:Addr} {ps:List Sh} (W:WI C w t H) (hg:w.reg p=some (.row ps)) (hT:Tb C H p T):∃ (P dt L:Addr) (as ws:List Addr),w.D T=none/\w.D P=none/\w.D L=none/\H P=some (.lst (as.map V.ref))/\fG w t p as ps/\ps.length<=100 /\
   H T=some (.ins C.tab dt (Wr P L))/\H L=some (.lst (ws.map V.ref))/\ws.length=ps.length+1 /\
   (∀ (i:Nat) x,ws[i]?=some x->w.D x=some (p,i+1)/\t.ns p<=t.ms p i/\t.ms p i<=60/\H x=some (.lst (aX (YU w.bk (ps.drop i)) (t.ms p i))))/\(∀ i s,s<=45->sm (YU w.bk (ps.drop i) s))/\dep (.row ps)<=w.M:=by
 obtain ⟨dx,c,fs,hU,hd,hsm,hns,hp,bQ,hc,hsub⟩:=W.at_ p _ hg;obtain ⟨P,T',dt,L,as,ws,rfl,h2,h3,h4,h5,h6,h7,h8,h9,h10,h11,h12⟩:=hsub;obtain ⟨bR,c',P',hp'⟩:=hT;rw [hp] at hp'
 have e:=Γ hp'
 injection e with e1 e2 e3
 unfold mf fR at e3
 injection e3 with e4 e5
 injection e5 with e6 e7
 injection e7 with e8 e9
 injection e8 with _ e8
 have:=V.ref.inj e8;subst this;exact ⟨P,dt,L,as,ws,h3.1,h2.1,h4.1,h5,h6,h7,h8,h9,h10,h11,h12,hd⟩
theorem Tr.tb {C:Cs} {w:Wo} {t t':Sw} {H H':Hp} {s d:Nat} (T:Tr C w t H t' H' s d) {p x:Addr} {sh:Sh} (W:WI C w t H) (hg:w.reg p=some sh) (h:Tb C H p x):Tb C H' p x:=by
 obtain ⟨dx,c,P,h⟩:=h;obtain ⟨_,_,_,hU,_⟩:=W.at_ p _ hg;exact ⟨dx,c,P,T.fr _ _ hU.1 h⟩
abbrev Vg (C:Cs) (l:Nat):List (Addr×Sp):=[(C.w,ZO C 0 l),(C.t,ZO C 1 l),(C.row,ZO C 2 l),(C.pick,ZO C 3 l),(C.many,ZO C 4 l),(C.alike,ZO C 6 l),(C.use,ZO C 5 l)]
theorem YeS (C:Cs) (l:Nat) (sh:Sh):(Uc C sh,ZO C (kind sh) l)∈Vg C l:=by
 cases sh with
 | w lo span=>exact .head _
 | t sg=>exact .tail _ (.head _)
 | row ps=>exact .tail _ (.tail _ (.head _))
 | pick mk ps=>exact .tail _ (.tail _ (.tail _ (.head _)))
 | many q=>exact .tail _ (.tail _ (.tail _ (.tail _ (.head _))))
 | alike q n=>exact .tail _ (.tail _ (.tail _ (.tail _ (.tail _ (.head _)))))
 | use x=>exact .tail _ (.tail _ (.tail _ (.tail _ (.tail _ (.tail _ (.head _))))))
theorem Wt {C:Cs} {w:Wo} {t:Sw} {H:Hp} {a:Addr} {sh:Sh} {l sz:Nat} {Q:VK} (W:WI C w t H) (hg:w.reg a=some sh) (hs:sz<=40) (hf:fu w sz (dep sh)+5<=l) (hR:Xk w t sz (dep sh+1))
  (q:∀ t' H',Tr C w t H t' H' sz (dep sh+1)->sz<t'.ns a->Q (.int (cnt w.bk sh sz)) H'):iu (Vg C l) H a "count_at" λsp=>sp [.ref a,.int sz] H Q E0:=by
 obtain ⟨dx,c,fs,hU,hd,hsm,hns,hp,bQ,hc,hsub⟩:=W.at_ a sh hg;exact ⟨_,_,YeS C l sh,dx,_,hp,Wi (by decide +kernel) hsub,w,t,a,sh,sz,rfl,rfl,W,hg,by omega,hs,λh=>q t H (.refl W _ _) h,λ_=>⟨hf,hR,λt' H' T e=>q t' H' T (by omega)⟩⟩
theorem HJ {k:Nat} {Z1 Z3 Z2 Z5 Z6 Z4 Z7 Z0:Addr} (R:g.aD Z6 "blocks_at" "RowTable.blocks_at" yR ["self","place","left"]) (zO:g.Me k Z6 "ways_at" ["self","place","left"] (eX (Cs.mk Z0 Z4 Z5 Z6 Z2 Z3 Z1 Z7) m)) (aR:g.dw k "count_at" ["self","size"] (Vg (Cs.mk Z0 Z4 Z5 Z6 Z2 Z3 Z1 Z7) (m))) (Zj:g.mg "range"=none) (Zi:Cls g.K Z6) (Zo:Yf g.K Z6 "parts") (Zh:Yf g.K Z6 "ways"):g.Me (k+1) Z6 "blocks_at" ["self","place","left"] (pA (Cs.mk Z0 Z4 Z5 Z6 Z2 Z3 Z1 Z7) (m+1)):=by
 refine R.me GQ (λvs H Q E h=>by obtain ⟨w,t,p,T,ps,pl,left,sh,rfl,W,hg,hT,hsh,hl,iT,hms,hf,hR,q⟩:=h;rfl) λf_ cdv A outer s H vs Q E hr h=>?_
 obtain ⟨w,t,p,T,ps,pl,left,sh,rfl,W,hg,hT,hsh,hl,iT,hms,hf,hR,q⟩:=h;refine ⟨_,(Ye (Yp (i:=3) GQ.nd rfl (.inr rfl) (Yr YQ (Yv (pv 0) rfl) (pv 1))) (Yi (Yn (Xt (src:=[none,some 3,some 0,some 1,some 2]) (N':=(["first","part","self","place","left"]:List Str)) (g:=Yy 0) (.own (.cap (i:=3) rfl rfl (by first | exact .inl rfl | exact .inr rfl) (.cap (i:=0) rfl rfl (by first | exact .inl rfl | exact .inr rfl) (.cap (i:=1) rfl rfl (by first | exact .inl rfl | exact .inr rfl) (.cap (i:=2) rfl rfl (by first | exact .inl rfl | exact .inr rfl) .nil))))) rfl (Y7 rfl Zj (Ya (Yl YW (pv 2) Yg) Yd)) (λcl C s₀ H₀ fp pn=>(Yu (i:=0) (show ax (["first","part","self","place","left"]:List Str) by decide +kernel) rfl (.inl rfl) (.inr rfl))) (λcl C s₀ H₀ fp pn=>Y0) (λcl C s₀ H₀ fp pn=>(Y9 (Ya (XE aR hr (pv 1) (Ya (pv 0) Yd)) (Ya (Xx zO Zi hr (pv 2) (Ya (Yl YW (pv 3) Yg) (Ya (Yl Y2 (pv 4) (pv 0)) Yd))) Yd)))))))),?_⟩;walk_at "rd";obtain ⟨P,dt,L,as,ws,dT,dP,dL,hP,hra,hpl,hTT,eN,hwl,hws,hsm,hdp⟩:=Vn W hg hT;have hpi:=(Η.mp hsh).1;have hal:=hra.1;have hai:as[pl]?=some (as[pl]'(by omega)):=Ε _;generalize as[pl]'(by omega)=a at hai;have hga:=hra.2 pl a sh hai hsh;have hds:dep sh<=YG ps:=X5 (Τ hsh);have hdr:dep (.row ps)=YG ps+1:=by rw [dep]
 refine ⟨_,_,_,hTT,Zi,Zo,_,rfl,P,rfl,_,ao.of hP,.ref a,Yo (by rw [Λ,hai];rfl),?_⟩;refine WN (n:=left+1) (λD i zs H'=>∃ t',Tr (Cs.mk Z0 Z4 Z5 Z6 Z2 Z3 Z1 Z7) w t H t' H' left (YG ps+1)/\i<=t'.ns a/\zs.length=i/\H' D=some (.lst zs)/\¬ t'.U D/\∀ (j:Nat) x,zs[j]?=some x->∃ T,x = .ref T/\w.D T=none/\¬ t'.U T/\T≠D/\H' T=some (.tup [.int (cnt w.bk sh j),.int (YU w.bk (ps.drop (pl+1)) (left - j))])) (λR r=>by walk_at "rd";exact r) (by omega) ?_ ?_ ?_ ?_
 ·intro D hD
  exact ⟨t,(Tr.refl W _ _).put hD (W.new hD).2 _,ι _,rfl,Yc,(W.new hD).2,λj x hx=>by simp at hx⟩
 ·rintro D i zs H' ⟨t',_,_,h1,h2,_⟩
  exact ⟨h1,h2⟩
 ·rintro D i zs H' hD hi ⟨t',T1,hna,hz,hd,cN,hts⟩ R r
  have fm:fu w i (dep sh)+5<=fu w left (YG ps+1):=Vm (by omega) (by omega);have dD:w.D D=none:=(W.new hD).1;walk_at "rd";refine Wt T1.wi hga (by omega) (by omega) ((T1.ready hR).mono (by omega)) λt2 H2 T2 hn2=>?_
  have gQ:=T1.trans (T2.mono (by omega));have own:=gQ.own hg (by omega) iT;have hd2:=T2.fr _ _ dD hd;have gk:=T2.ours cN hd;refine ⟨_,_,gQ.fr _ _ dT hTT,rfl,w,t2,p,T,ps,pl+1,left - i,by rw [show (left:Int) - (i:Int)=((left - i:Nat):Int) by omega];rfl,T2.wi,hg,gQ.tb W hg hT,by omega,by omega,by omega,λ_=>⟨?_,few (by decide),λX gX=>?_⟩,λh=>?_⟩
  ·rw [own.2]
   have:=hms (pl+1) (by omega);omega
  ·have fQ:X≠D:=am (Ym hd2 gX)
   have sX:=Yj.aj gX (.tup [.int (cnt w.bk sh i),.int (YU w.bk (ps.drop (pl+1)) (left - i))]);refine r _ _ (sX _ _ hd2) ⟨t2,(gQ.same sX).put hD gk _,hn2,by rw [Μ,hz];rfl,Yc,gk,λj x hx=>?_⟩;by_cases c:j<zs.length
   ·rw [aw c] at hx
    obtain ⟨Y,rfl,y1,y2,y3,y4⟩:=hts j x hx;exact ⟨Y,rfl,y1,T2.ours y2 y4,y3,by rw [Yh y3];exact sX _ _ (T2.fr _ _ y1 y4)⟩
   ·have hj:j=zs.length:=by
     have:=(Η.mp hx).1;rw [Μ,av] at this
     omega
    subst hj;rw [az (Κ _),fq] at hx
    have:V.ref X=x:=Γ hx;subst this;exact ⟨X,rfl,(T2.wi.new gX).1,(T2.wi.new gX).2,fQ,by rw [Yh fQ,Yc,hz]⟩
  ·have:=hms ps.length (by omega)
   rw [own.2] at h
   omega
 ·rintro D zs H' hD ⟨t',T1,hna,hz,hd,cN,hts⟩
  refine q D t' H' T1 hD cN ⟨zs,hd,by rw [hz,Β,aS],λj x y hx hy=>?_⟩ λa' ha'=>?_
  rotate_left
  ·have:=HF W hg hT hTT hP ha'
   rw [hai] at this
   cases Γ this
   exact hna
  obtain ⟨X,rfl,_,_,_,hX⟩:=hts j x hx;have hj:=(Η.mp hx).1;rw [Λ,aI (by omega)] at hy
  have:=Γ hy;subst this;exact ⟨X,rfl,hX⟩
theorem HN {xs:List V} {n:Nat} {x:V} (hl:xs.length=n+1) (h:xs[n]?=some x):dG xs (-1)=some x:=by
 have e:xs=xs.take n++[x]:=by rw [<- Y4 h,af (by omega)]
 rw [e];exact Yes _ _
theorem XG (P L:Addr):(Wr P L).lookup ("ways":Str)=some (.ref L):=by
 unfold Wr;rw [Υ,show (("ways":Str)==("parts":Str))=false by decide +kernel,Υ,show (("ways":Str)==("ways":Str))=true by decide +kernel]
theorem QG (P L:Addr) {m:Str} (hm:isF m=false):(Wr P L).lookup m=none:=QE hm λq hq=>(show ∀ x∈(["parts","ways"]:List Str),x∈fns by decide +kernel) _ (List.mem_map_of_mem (f:=(·.1)) hq)
theorem YcV {g:TG} {tb:TS} {D:Ends} {σ:St} {H:Hp} {ta:TA} {n:Nat} (Pv:Nat->St->Hp->Prop) (ha:∀ R:List V->Hp->Prop,R [.int ((n:Int) - 1),.int (-1),.int (-1)] H->ta σ H R) (hn:n<2^62) (h0:Pv 0 σ H)
  (hs:∀ i σ H,i<n->Pv i σ H->g (.int ((n - 1 - i:Nat):Int)) σ H λσ2 H2=>tb { D with nx:=Pv (i+1),ct:=Pv (i+1),bk:=D.nx } σ2 H2) (hd:∀ σ H,Pv n σ H->D.nx σ H):WJ (FN ta) g tb D σ H:=by
 refine ha _ ⟨(n:Int) - 1,-1,rfl,⟨by omega,by omega,by omega,by omega⟩,?_⟩;have e:((n:Int) - 1 - (-1)).toNat=n:=by omega
 rw [e];refine ⟨λi m σ H=>m=n - i/\i<=n/\Pv i σ H,⟨n,by simp,ι _,h0⟩,?_⟩;rintro i m σ H ⟨rfl,hi,p⟩;by_cases hlt:i<n
 ·refine .inr ⟨hlt,Pv (i+1),λσ' H' p'=>⟨n - (i+1),by omega,rfl,hlt,p'⟩,λx H' y=>?_⟩
  obtain ⟨e,y⟩:=y;subst e y;have:=hs i σ _ hlt p;have e2:((n - 1 - i:Nat):Int)=(n:Int) - 1 - i:=by omega
  rw [e2] at this
  exact this
 ·have e:i=n:=by omega
  subst e;exact .inl ⟨Κ _,hd σ H p⟩
theorem HS {k:Nat} {Z1 Z3 Z2 Z5 Z6 Z4 Z7 Z0:Addr} (R:g.aD Z6 "add_size" "RowTable.add_size" yQ ["self","size"]) (pB:g.Fn k "ways_of" ["blocks"] (ux g.K)) (zP:g.Me k Z6 "blocks_at" ["self","place","left"] (pA (Cs.mk Z0 Z4 Z5 Z6 Z2 Z3 Z1 Z7) m)) (au:g.mg "len"=none) (Zj:g.mg "range"=none) (Zi:Cls g.K Z6) (Zo:Yf g.K Z6 "parts") (Zh:Yf g.K Z6 "ways"):g.Me (k+1) Z6 "add_size" ["self","size"] (iR (Cs.mk Z0 Z4 Z5 Z6 Z2 Z3 Z1 Z7) (m+1)):=by
 refine R.me GP (λvs H Q E h=>by obtain ⟨w,t,p,T,ps,sz,rfl,W,hg,hT,hms,hs,hsn,hf,hR,q⟩:=h;rfl) λf_ cdv A outer s H vs Q E hr h=>?_
 obtain ⟨w,t,p,T,ps,sz,rfl,W,hg,hT,hms,hs,hsn,hf,hR,q⟩:=h;refine ⟨_,(Ye (YY (Wy de eL eK Xm (Yr YQ (Yv (pv 0) rfl) (Ul Vk Yg)) (Ya (Vt (Yq YK (pv 1) Yg (Ys _)) Yg Yg) Yd))) (Yi (Xp ai rfl (Ti rfl Zj (Ya (Yl Y2 (YN au YL (Ya (Yv (pv 0) rfl) Yd)) Yg) (Ya (Ul Vk Yg) (Ya (Ul Vk Yg) Yd))) (by rfl) (by rfl)) (Yu (i:=2) GP.nd rfl (.inl rfl)) (Yi (YY (Wy de eL eK Xm (Yr YQ (Yv (pv 0) rfl) (pv 2)) (Ya (Yz pB hr (Ya (Xx zP Zi hr (pv 0) (Ya (pv 2) (Ya (pv 1) Yd))) Yd)) Yd))))))),?_⟩;obtain ⟨P,dt,L,as,ws,dT,dP,dL,hP,hra,hpl,hTT,eN,hwl,hws,hsm,hdp⟩:=Vn W hg hT;have hwk:ws[ps.length]?=some (ws[ps.length]'(by omega)):=Ε _;generalize ws[ps.length]'(by omega)=y at hwk;obtain ⟨jR,hny,NK,hy⟩:=hws ps.length y hwk;have hnn:t.ns p=sz:=by have:=hms ps.length;omega
 rw [hms] at hy
 have e0:YU w.bk (ps.drop ps.length) sz=if sz=0 then 1 else 0:=by rw [g9,Hh]
 have hdr:dep (.row ps)=YG ps+1:=by rw [dep]
 have hbr:bnd sz (YG ps+1) (.row ps)<=t.ns p:=by rw [bnd,if_neg (by omega)];omega
 refine wR (λσ H'=>σ=[some (.ref T),some (.int sz),none]/\H'=upd H y (.lst (aX (YU w.bk (ps.drop ps.length)) (sz+1)))) ?_ (λN hN=>?_)
 rotate_left
 ·walk_at "rd"
  refine ⟨_,_,_,hTT,Zi,Zh,_,XG _ _,L,rfl,_,ao.of eN,.ref y,HN (n:=ps.length) (by rw [Β,hwl]) (by rw [Λ,hwk];rfl),.inl ⟨rfl,_,ao.of hy⟩,Xv (λc=>?_) (λc=>?_)⟩
  ·refine ⟨y,rfl,_,hy,by rw [Xr];exact few (by omega),hN _ _ ⟨rfl,?_⟩⟩
   rw [Vb,e0,if_pos (by omega)]
  ·refine ⟨y,rfl,_,hy,by rw [Xr];exact few (by omega),hN _ _ ⟨rfl,?_⟩⟩
   rw [Vb,e0,if_neg (by omega)]
 rintro σ H1 ⟨rfl,rfl⟩;have T0:dz (Cs.mk Z0 Z4 Z5 Z6 Z2 Z3 Z1 Z7) w t H t H sz (YG ps+2) p:=(Tr.refl W _ _).b rfl;have T1:=T0.way hg jR (hms _) (by omega) (λj h1 h2=>by omega) (λa ha=>by
  have h1:=(Η.mp (HF W hg hT hTT hP ha)).1;have h2:=hra.1;omega)
 walk_at "rd";refine YcV (n:=ps.length) (λi σ H'=>∃ (t':Sw) (o:Option V),σ=[some (.ref T),some (.int sz),o]/\dz (Cs.mk Z0 Z4 Z5 Z6 Z2 Z3 Z1 Z7) w t H t' H' sz (YG ps+2) p/\(∀ j,ps.length - i<=j->t'.ms p j=sz+1)/\∀ j,j<ps.length - i->t'.ms p j=sz) (λR r=>?_) (by omega) ⟨_,none,rfl,T1,λj hj=>if_pos ⟨rfl,hj⟩,λj hj=>(if_neg (λz=>by omega)).trans (hms j)⟩ ?_ ?_
 ·walk_at "rd"
  refine ⟨_,_,_,T1.fr _ _ dT hTT,Zi,Zo,_,rfl,P,rfl,_,.inl (ao.of (T1.fr _ _ dP hP)),?_⟩;rw [Β,hra.1];exact r
 ·rintro i σ H' hi ⟨t',o,rfl,T2,hge,hlt⟩
  obtain ⟨pl,NP⟩:∃ pl,pl=ps.length - 1 - i:=⟨_,rfl⟩;rw [<- NP];have hsh:ps[pl]?=some (ps[pl]'(by omega)):=Ε _;generalize ps[pl]'(by omega)=sh at hsh;have hwp:ws[pl]?=some (ws[pl]'(by omega)):=Ε _;generalize ws[pl]'(by omega)=yy at hwp;obtain ⟨rW,_,_,_⟩:=hws pl yy hwp;have hT':Tb (Cs.mk Z0 Z4 Z5 Z6 Z2 Z3 Z1 Z7) H' p T:=by
   obtain ⟨dx,c,P',h⟩:=hT;obtain ⟨_,_,_,hU,_⟩:=W.at_ p _ hg;exact ⟨dx,c,P',T2.fr _ _ hU.1 h⟩
  obtain ⟨P2,dt2,L2,as2,jW,_,_,_,_,_,_,_,_,rY,ni,_,_⟩:=Vn T2.wi hg hT';have NQ:jW[pl]?=some (jW[pl]'(by omega)):=Ε _;obtain ⟨hD2,_,_,hy2⟩:=ni pl _ NQ;rw [T2.wi.inj _ _ _ hD2 rW] at hy2
  walk_at "rd";refine ⟨_,_,_,T2.fr _ _ dT hTT,Zi,Zh,_,XG _ _,L,rfl,_,ao.of (T2.fr _ _ dL eN),.ref yy,Yo (by rw [Λ,hwp];rfl),.inl ⟨rfl,_,ao.of hy2⟩,_,_,T2.fr _ _ dT hTT,QG _ _ (by decide +kernel),?_⟩;refine ⟨w,t',p,T,ps,pl,sz,sh,rfl,T2.wi,hg,hT',hsh,hs,by rw [T2.own];exact hsn,λj hj=>by rw [hge j (by omega)];omega,by omega,T2.ready hg hbr hR,λD t3 H3 T3 gD cN hB hpc=>?_⟩;have own:=T3.own hg (by omega) (by rw [T2.own];exact hsn);have hlen:((η (sz+1)).map λf=>(cnt w.bk sh f,YU w.bk (ps.drop (pl+1)) (sz - f))).length=sz+1:=by simp
  refine ⟨D,_,rfl,hB,by rw [hlen];omega,λx hx=>?_,λH4 s4=>?_⟩
  ·obtain ⟨f,hf',rfl⟩:=ar.mp hx
   have hf':=a7.mp hf';have hga:∃ a,w.reg a=some sh:=by
    have hai:as[pl]?=some (as[pl]'(by have:=hra.1;omega)):=Ε _;exact ⟨_,hra.2 pl _ sh hai hsh⟩
   obtain ⟨a,hga⟩:=hga;obtain ⟨_,_,_,_,_,jX,_⟩:=W.at_ a sh hga;exact ⟨jX f (by omega),hsm _ _ (by omega)⟩
  have T4:=(T2.trans ((T3.mono (by omega)).b own.1)).same s4;have T5:=T4.way (i:=pl) hg rW (by rw [own.2];exact hlt pl (by omega)) (by omega) (λj h1 h2=>by rw [own.2];exact hge j (by omega)) (λa ha=>hpc a (Yd2 T2.wi hg (λb o e h=>s4 _ _ (T3.fr b o e h)) ha));obtain ⟨P4,dt4,L4,as4,HW,_,_,_,_,_,_,_,_,afe,NT,_,_⟩:=Vn T3.wi hg (T3.tb T2.wi hg hT');have NZ:HW[pl]?=some (HW[pl]'(by omega)):=Ε _;obtain ⟨HX,_,_,uy⟩:=NT pl _ NZ;rw [T3.wi.inj _ _ _ HX rW,own.2,hlt pl (by omega)] at uy
  have uy:=s4 _ _ uy;refine ⟨yy,rfl,_,uy,by rw [Xr];exact few (by omega),t3.iw p pl (sz+1),?_,λj hj=>?_,λj hj=>?_⟩
  ·have esum:(((η (sz+1)).map λf=>(cnt w.bk sh f,YU w.bk (ps.drop (pl+1)) (sz - f))).map λp=>p.1*p.2).sum=YU w.bk (ps.drop pl) sz:=by
    rw [List.drop_eq_getElem_cons (by omega:pl<ps.length),Q1,bn];have:ps[pl]'(by omega)=sh:=by
     have:=Ε (l:=ps) (i:=pl) (by omega);rw [this] at hsh
     exact Γ hsh
    rw [this];rfl
   rw [esum,<- Vb];exact T5
  ·show (if p=p/\pl<=j then _ else _)=_
   rw [if_pos ⟨rfl,by omega⟩]
  ·show (if p=p/\pl<=j then _ else _)=_
   rw [if_neg (by omega),own.2];exact hlt j (by omega)
 ·rintro σ H' ⟨t',o,rfl,T2,hge,hlt⟩
  walk_at "rd";have hall:∀ i,t'.ms p i=sz+1:=λi=>hge i (by omega)
  exact q t' H' (T2.to hg (by omega) (by omega) (λi=>by rw [hall,hall])) T2.own hall
theorem HY {k:Nat} {Z1 Z3 Z2 Z5 Z6 Z4 Z7 Z0:Addr} (R:g.aD Z6 "ways_at" "RowTable.ways_at" yP ["self","place","left"]) (Z4Q:g.Me k Z6 "add_size" ["self","size"] (iR (Cs.mk Z0 Z4 Z5 Z6 Z2 Z3 Z1 Z7) m)) (au:g.mg "len"=none) (Zi:Cls g.K Z6) (Zo:Yf g.K Z6 "parts") (Zh:Yf g.K Z6 "ways"):g.Me (k+1) Z6 "ways_at" ["self","place","left"] (eX (Cs.mk Z0 Z4 Z5 Z6 Z2 Z3 Z1 Z7) (m+1)):=by
 refine R.me Z4N (λvs H Q E h=>by obtain ⟨w,t,p,T,ps,pl,left,rfl,W,hg,hT,hpl,hl,hm1,q1,q2⟩:=h;rfl) λf_ cdv A outer s H vs Q E hr h=>?_
 obtain ⟨w,t,p,T,ps,pl,left,rfl,W,hg,hT,hpl,hl,hm1,q1,q2⟩:=h;refine ⟨_,(Ye (WW ai (Yq vU (YN au YL (Ya (Yr YQ (Yv (pv 0) rfl) (Ul Vk Yg)) Yd)) (pv 2) (Ys _)) (Yi (YY (Xx Z4Q Zi hr (pv 0) (Ya (YN au YL (Ya (Yr YQ (Yv (pv 0) rfl) (Ul Vk Yg)) Yd)) Yd))))) (Yi (Yn (Yr YQ (Yr YQ (Yv (pv 0) rfl) (pv 1)) (pv 2))))),?_⟩;obtain ⟨P,dt,L,as,ws,dT,dP,dL,hP,hra,hpl',hTT,eN,hwl,hws,hsm,hdp⟩:=Vn W hg hT;have hwk:ws[ps.length]?=some (ws[ps.length]'(by omega)):=Ε _;generalize ws[ps.length]'(by omega)=y at hwk;obtain ⟨jR,hny,NK,hy⟩:=hws ps.length y hwk;have hwp:ws[pl]?=some (ws[pl]'(by omega)):=Ε _;generalize ws[pl]'(by omega)=yp at hwp;obtain ⟨hDp,hnp,hmp,hyp⟩:=hws pl yp hwp;have nj:dG (ws.map V.ref) (-1)=some (.ref y):=HN (n:=ps.length) (by rw [Β,hwl]) (by rw [Λ,hwk];rfl);have hmp':dG (ws.map V.ref) (pl:Int)=some (.ref yp):=Yo (by rw [Λ,hwp];rfl);walk_at "rd";by_cases cs:left<t.ms p ps.length
 ·refine X4 (α:=Unit) (λx σ H'=>σ=[some (.ref T),some (.int pl),some (.int left)]/\H=H') (λx=>false) (λx=>0) () ⟨rfl,rfl⟩ ?_ ?_ ?_
  ·rintro x σ H' ⟨rfl,rfl⟩ R r
   walk_at "rd";refine ⟨_,_,_,hTT,Zi,Zh,_,XG _ _,L,rfl,_,ao.of eN,_,nj,y,rfl,_,.inl (ao.of hy),?_⟩;rw [Xr,dle,decide_eq_false (by omega)];exact r H ⟨rfl,rfl⟩
  ·rintro x σ H' ⟨rfl,rfl⟩ hd
   cases hd
  ·rintro x σ H' ⟨rfl,rfl⟩ hd
   walk_at "rd";exact ⟨_,_,_,hTT,Zi,Zh,_,XG _ _,L,rfl,_,ao.of eN,_,hmp',yp,rfl,_,ao.of hyp,_,Us _ (q1 cs).1,(q1 cs).2⟩
 ·obtain ⟨hU,iT,hf,hR,q⟩:=q2 (by omega)
  have hms:∀ i,t.ms p i=left:=λi=>by have:=hU i;have:=hU ps.length;omega
  have T0:∀ (x:Sw) (H':Hp),Tr (Cs.mk Z0 Z4 Z5 Z6 Z2 Z3 Z1 Z7) w t H x H' left (YG ps+2)->(∀ i,x.ms p i=left+1)->H' y=some (.lst (aX (YU w.bk (ps.drop ps.length)) (left+1)))/\H' yp=some (.lst (aX (YU w.bk (ps.drop pl)) (left+1))):=λx H' T1 hx=>by
   obtain ⟨P2,dt2,L2,as2,jW,_,_,_,_,_,_,_,_,rY,ni,_,_⟩:=Vn T1.wi hg (T1.tb W hg hT);have h1:jW[ps.length]?=some (jW[ps.length]'(by omega)):=Ε _;have h2:jW[pl]?=some (jW[pl]'(by omega)):=Ε _;obtain ⟨k1,_,_,k4⟩:=ni _ _ h1;obtain ⟨j1,_,_,j4⟩:=ni _ _ h2;rw [T1.wi.inj _ _ _ k1 jR,hx] at k4
   rw [T1.wi.inj _ _ _ j1 hDp,hx] at j4
   exact ⟨k4,j4⟩
  rw [hms] at hy
  refine X4 (α:=Bool×Sw) (λx σ H'=>σ=[some (.ref T),some (.int pl),some (.int left)]/\(x.1=false->x.2=t/\H'=H)/\(x.1=true->Tr (Cs.mk Z0 Z4 Z5 Z6 Z2 Z3 Z1 Z7) w t H x.2 H' left (YG ps+2)/\x.2.ns p=t.ns p/\∀ i,x.2.ms p i=left+1)) (λx => !x.1) (λx=>if x.1 then 0 else 1) (false,t) ⟨rfl,λ_=>⟨rfl,rfl⟩,λz=>by cases z⟩ ?_ ?_ ?_
  ·rintro ⟨b,x⟩ σ H' ⟨rfl,h1,h2⟩ R r
   have rr:=r H' ⟨rfl,h1,h2⟩;walk_at "rd"
   cases b with
   | false =>
    obtain ⟨rfl,rfl⟩:=h1 rfl;refine ⟨_,_,_,hTT,Zi,Zh,_,XG _ _,L,rfl,_,ao.of eN,_,nj,y,rfl,_,.inl (ao.of hy),?_⟩;rw [Xr,dle,decide_eq_true (by omega)];exact rr
   | true =>
    obtain ⟨T1,_,hx⟩:=h2 rfl;refine ⟨_,_,_,T1.fr _ _ dT hTT,Zi,Zh,_,XG _ _,L,rfl,_,ao.of (T1.fr _ _ dL eN),_,nj,y,rfl,_,.inl (ao.of (T0 x H' T1 hx).1),?_⟩;rw [Xr,dle,decide_eq_false (by omega)];exact rr
  ·rintro ⟨b,x⟩ σ H' ⟨rfl,h1,h2⟩ hd
   cases b with
   | true=>cases hd
   | false =>
    obtain ⟨rfl,rfl⟩:=h1 rfl;walk_at "rd";refine ⟨_,_,hTT,QG _ _ (by decide +kernel),_,_,_,hTT,Zi,Zh,_,XG _ _,L,rfl,_,ao.of eN,_,nj,y,rfl,_,.inl (ao.of hy),?_⟩;rw [Xr];exact ⟨w,x,p,T,ps,left,rfl,W,hg,hT,hms,hl,iT,by omega,hR,λt' H' T1 hn hx=>⟨(true,t'),(λz=>by cases z),λ_=>⟨T1,hn,hx⟩,Nat.zero_lt_one⟩⟩
  ·rintro ⟨b,x⟩ σ H' ⟨rfl,h1,h2⟩ hd
   cases b with
   | false=>cases hd
   | true =>
    obtain ⟨T1,hn,hx⟩:=h2 rfl;walk_at "rd";exact ⟨_,_,_,T1.fr _ _ dT hTT,Zi,Zh,_,XG _ _,L,rfl,_,ao.of (T1.fr _ _ dL eN),_,hmp',yp,rfl,_,ao.of (T0 x H' T1 hx).2,_,Us _ (by omega),q x H' T1 hn (λi=>by rw [hx,hx]) (by rw [hx];omega)⟩
theorem Ia (c P T:Addr):(mf c (fR P T)).lookup ("table":Str)=some (.ref T):=by
 unfold mf fR;rw [Υ,show (("table":Str)==("counts":Str))=false by decide +kernel,Υ,show (("table":Str)==("parts":Str))=false by decide +kernel,Υ,show (("table":Str)==("table":Str))=true by decide +kernel]
theorem Ib {k:Nat} {Z1 Z3 Z2 Z5 Z6 Z4 Z7 Z0:Addr} (R:g.aD Z5 "reckoned" "RowMaker.reckoned" yU ["self","size"]) (zO:g.Me k Z6 "ways_at" ["self","place","left"] (eX (Cs.mk Z0 Z4 Z5 Z6 Z2 Z3 Z1 Z7) m)) (Zf:Cls g.K Z5) (ZD:Yf g.K Z5 "counts") (ZF:Yf g.K Z5 "parts") (ZC:Yf g.K Z5 "table") (Zi:Cls g.K Z6) (Zo:Yf g.K Z6 "parts") (Zh:Yf g.K Z6 "ways"):g.Me (k+1) Z5 "reckoned" ["self","size"] (aO (Cs.mk Z0 Z4 Z5 Z6 Z2 Z3 Z1 Z7) 2 (m+1)):=by
 refine R.me Z4d (λvs H Q E h=>by obtain ⟨w,t,p,sh,sz,rfl,hk,W,hg,hn,hs,hf,hR,q⟩:=h;rfl) λf_ cdv A outer s H vs Q E hr h=>?_
 obtain ⟨w,t,p,sh,sz,rfl,hk,W,hg,hn,hs,hf,hR,q⟩:=h;refine ⟨_,(Yi (Yn (Xx zO Zi hr (Yv (pv 0) rfl) (Ya Yg (Ya (pv 1) Yd))))),?_⟩
 cases sh with
 | row ps =>
  obtain ⟨dx,c,fs,hU,hd,hsm,hns,hp,bQ,hc,hsub⟩:=W.at_ p _ hg;obtain ⟨P,T,dt,L,as,ws,rfl,h2,h3,h4,h5,h6,h7,h8,h9,h10,h11,h12⟩:=hsub;have hT:Tb (Cs.mk Z0 Z4 Z5 Z6 Z2 Z3 Z1 Z7) H p T:=⟨dx,c,P,hp⟩;have hdr:dep (.row ps)=YG ps+1:=by rw [dep]
  rw [hdr] at hf hR
  have nq:f9 t p:=hR p _ hg (by rw [hn,bnd,if_pos (by omega)];omega);have hwk:ws[ps.length]?=some (ws[ps.length]'(by omega)):=Ε _;obtain ⟨_,hnk,_,_⟩:=h11 _ _ hwk;have hw0:ws[0]?=some (ws[0]'(by omega)):=Ε _;obtain ⟨_,hn0,_,_⟩:=h11 _ _ hw0;walk_at "rd";refine ⟨_,_,_,hp,Zf,ZC,_,Ia _ _ _,T,rfl,_,_,h8,QG _ _ (by decide +kernel),w,t,p,T,ps,0,sz,rfl,W,hg,hT,by omega,hs,by omega,λh=>⟨by rw [<- nq ps.length];exact h,?_⟩,λh=>⟨nq,by omega,by omega,hR.mono (by omega),λt' H' T1 hn' hU' hl'=>?_⟩⟩
  ·have:=q t H (.refl W _ _) hn λps' z i=>by
    have:=Sh.row.inj z;subst this;rw [nq i,<- nq ps.length];omega
   rw [QD] at this
   exact this λdx c fs as _ h a ha=>by rw [show as=[] from h] at ha;cases ha
  ·have fH:∀ i,sz+1<=t'.ms p i:=λi=>by
    rw [hU' i];exact hl'
   have:=q t' H' (by rw [hdr];exact T1) (by omega) λps' z i=>fH i
   rw [QD] at this
   exact this λdx c fs as _ h a ha=>by rw [show as=[] from h] at ha;cases ha
 | _=>cases hk
def Ie (C:Cs) (H:Hp) (p a:Addr):Prop:=∃ dx c M P,∃ as:List Addr,H p=some (.ins C.pick dx (mf c (fP M P)))/\H P=some (.lst (as.map V.ref))/\a∈as
theorem Ig {c c' P P' T T':Addr} (h:mf c (fP P T)=mf c' (fP P' T')):P=P'/\T=T':=by
 unfold mf fP at h
 injection h with _ h
 injection h with h1 h
 injection h with h2 _
 injection h1 with _ h1
 injection h2 with _ h2
 exact ⟨V.ref.inj h1,V.ref.inj h2⟩
theorem YeT {C:Cs} {H:Hp} {p dx c M P a:Addr} {as:List Addr} (hp:H p=some (.ins C.pick dx (mf c (fP M P)))) (hP:H P=some (.lst (as.map V.ref))) (h:Ie C H p a):a∈as:=by
 obtain ⟨bR,c',M',P',bs,e1,e2,e3⟩:=h;rw [hp] at e1
 have e:=Γ e1
 injection e with _ _ e
 obtain ⟨_,rfl⟩:=Ig e;rw [hP] at e2
 have e:=Γ e2
 injection e with e
 cases VI e
 exact e3
inductive pC (C:Cs) (l:Nat) (vs:List V) (H:Hp) (Q:VK) (E_:XK):Prop
 | mk (w:Wo) (t:Sw) (p:Addr) (mk:List (List Nat)) (ps:List Sh) (sz:Nat) (h0:vs=[.ref p,.int sz]) (h1:WI C w t H) (h2:w.reg p=some (.pick mk ps)) (h3:sz<=40) (h4:sz<=t.ns p) (h5:fu w sz (YG ps+1)+3<=l) (h6:Xk w t sz (YG ps+1)) (h7:∀ D t' H',Tr C w t H t' H' sz (YG ps+1)->H D=none->¬ t'.U D->Blk H' D (ps.map λsh=>(cnt w.bk sh sz,1))->(∀ a,Ie C H p a->sz<t'.ns a)->Q (.ref D) H')
theorem YcW {C:Cs} {vs:List V} {H:Hp} {Q:VK} {E:XK} (h:pC C 0 vs H Q E):False:=by
 obtain ⟨w,t,p,mk,ps,sz,_,_,_,_,_,h,_⟩:=h;omega
theorem Q3 (c M P:Addr):(mf c (fP M P)).lookup ("parts":Str)=some (.ref P):=by
 unfold mf fP;rw [Υ,show (("parts":Str)==("counts":Str))=false by decide +kernel,Υ,show (("parts":Str)==("marks":Str))=false by decide +kernel,Υ,show (("parts":Str)==("parts":Str))=true by decide +kernel]
theorem Ih (c:Addr) (a:V):(mf c (fU a)).lookup ("named":Str)=some a:=by
 unfold mf fU;rw [Υ,show (("named":Str)==("counts":Str))=false by decide +kernel,Υ,show (("named":Str)==("named":Str))=true by decide +kernel]
theorem Ii {c c':Addr} {fs fs':List (Str×V)} (h:mf c fs=mf c' fs'):fs=fs':=by
 unfold mf at h
 injection h
theorem Uu {x y:Str×V} {l l':List (Str×V)} (h:x::l=y::l'):x.2=y.2:=by
 injection h with h _
 rw [h]
theorem QH {C:Cs} {t:Sw} {H:Hp} {p dx c a:Addr} {sh:Sh} {n:Nat} {fs:List (Str×V)} (h1:H p=some (.ins (Uc C sh) dx (mf c fs))) (hf:ur H sh fs [a]) (hk:4<=kind sh) (h2:pf sh n<=t.ns a):zK C t H p sh n:=λbR c' fs' as e h b hb=>by
 rw [h1] at e
 have e:=Γ e
 injection e with _ _ e
 cases Ii e
 suffices ee:as=[a] by
  rw [ee] at hb
  cases Ξ.mp hb
  exact h2
 cases sh with
 | many q =>
  obtain ⟨a1,e1,e2⟩:=hf;obtain ⟨a2,e3,e4⟩:=h
  cases List.singleton_inj.mp e2
  rw [e1] at e3
  cases V.ref.inj (Uu e3)
  exact e4
 | alike q k =>
  obtain ⟨a1,e1,e2⟩:=hf;obtain ⟨a2,e3,e4⟩:=h
  cases List.singleton_inj.mp e2
  rw [e1] at e3
  cases V.ref.inj (Uu e3)
  exact e4
 | use x =>
  obtain ⟨a1,e1,e2⟩:=hf;obtain ⟨a2,e3,e4⟩:=h
  cases List.singleton_inj.mp e2
  rw [e1] at e3
  cases V.ref.inj (Uu e3)
  exact e4
 | _=>simp [kind] at hk
theorem Uv (c:Addr) (a:V) (l:List (Str×V)):(mf c (("part",a)::l)).lookup ("part":Str)=some a:=by
 unfold mf;rw [Υ,show (("part":Str)==("counts":Str))=false by decide +kernel,Υ,show (("part":Str)==("part":Str))=true by decide +kernel]
theorem W3 (c:Addr) (a v:V):(mf c [("part",a),("times",v)]).lookup ("times":Str)=some v:=by
 unfold mf;rw [Υ,show (("times":Str)==("counts":Str))=false by decide +kernel,Υ,show (("times":Str)==("part":Str))=false by decide +kernel,Υ,show (("times":Str)==("times":Str))=true by decide +kernel]
theorem Ij {k:Nat} {Z1 Z3 Z2 Z5 Z6 Z4 Z7 Z0:Addr} (R:g.aD Z7 "reckoned" "UseMaker.reckoned" zy ["self","size"]) (aR:g.dw k "count_at" ["self","size"] (Vg (Cs.mk Z0 Z4 Z5 Z6 Z2 Z3 Z1 Z7) (m))) (Ze:Cls g.K Z7) (Zv:Yf g.K Z7 "counts") (Zn:Yf g.K Z7 "named"):g.Me (k+1) Z7 "reckoned" ["self","size"] (aO (Cs.mk Z0 Z4 Z5 Z6 Z2 Z3 Z1 Z7) 5 (m+1)):=by
 refine R.me Z4f (λvs H Q E h=>by obtain ⟨w,t,p,sh,sz,rfl,hk,W,hg,hn,hs,hf,hR,q⟩:=h;rfl) λf_ cdv A outer s H vs Q E hr h=>?_
 obtain ⟨w,t,p,sh,sz,rfl,hk,W,hg,hn,hs,hf,hR,q⟩:=h;refine ⟨_,(Yi (Yn (Vt (Yq YK (pv 1) Yg (Ys _)) Yg (XE aR hr (Yv (pv 0) rfl) (Ya (Yl Y2 (pv 1) Yg) Yd))))),?_⟩
 cases sh with
 | use x =>
  obtain ⟨dx,c,fs,hU,hd,hsm,hns,hp,bQ,hc,hsub⟩:=W.at_ p _ hg;obtain ⟨a,e,hga,hcn⟩:=id hsub;have e:fs=fU (.ref a):=e;subst e;have hdr:dep (.use x)=0:=by simp [dep]
  rw [hdr] at hf hR
  have hcn:t.ns p - 1<=t.ns a:=hcn;walk_at "rd";refine Xv (λc=>?_) (λc=>?_)
  ·have e:sz=0:=by omega
   subst e;have:=q t H (.refl W _ _) hn (λps z=>by cases z) (QH hp ⟨a,rfl,rfl⟩ (show 4<=5 by decide) (ι _));rw [Hj] at this
   exact this
  ·obtain ⟨j,rfl⟩:∃ j,sz=j+1:=⟨sz - 1,by omega⟩
   obtain ⟨_,_,_,_,hda,_⟩:=W.at_ a _ hga;have fm:fu w j (dep (w.bk x))+5<=fu w (j+1) 0:=Vm hda (by omega);rw [show ((j+1:Nat):Int) - 1=(j:Int) by omega];refine ⟨_,_,_,hp,Ze,Zn,_,Ih _ _,a,rfl,?_⟩;refine Wt W hga (by omega) (by omega) (hR.mono (by omega)) λt2 H2 T2 hn2=>?_
   have T3:Tr (Cs.mk Z0 Z4 Z5 Z6 Z2 Z3 Z1 Z7) w t H t2 H2 (j+1) 0:=T2.mono (by omega);have own:=T3.own hg (by omega) (by omega);have:=q t2 H2 (T3.mono (by omega)) (by omega) (λps z=>by cases z) (QH (T2.fr _ _ hU.1 hp) ⟨a,rfl,rfl⟩ (show 4<=5 by decide) (show j+1+1 - 1<=_ by omega));rw [Hl] at this
   exact this
 | _=>cases hk
theorem Ik {k:Nat} {Z1 Z3 Z2 Z5 Z6 Z4 Z7 Z0:Addr} (R:g.aD Z1 "reckoned" "AlikeMaker.reckoned" zq ["self","size"]) (aR:g.dw k "count_at" ["self","size"] (Vg (Cs.mk Z0 Z4 Z5 Z6 Z2 Z3 Z1 Z7) (m))) (Za:Cls g.K Z1) (Zx:Yf g.K Z1 "counts") (Zy:Yf g.K Z1 "part") (Zk:Yf g.K Z1 "times"):g.Me (k+1) Z1 "reckoned" ["self","size"] (aO (Cs.mk Z0 Z4 Z5 Z6 Z2 Z3 Z1 Z7) 6 (m+1)):=by
 refine R.me Z3z (λvs H Q E h=>by obtain ⟨w,t,p,sh,sz,rfl,hk,W,hg,hn,hs,hf,hR,q⟩:=h;rfl) λf_ cdv A outer s H vs Q E hr h=>?_
 obtain ⟨w,t,p,sh,sz,rfl,hk,W,hg,hn,hs,hf,hR,q⟩:=h;refine ⟨_,(Ye (YF (Vs (Yq UV (pv 1) (Yv (pv 0) rfl) (Ys _)) (Vh (Yq Eh (Yl Xg (pv 1) (Yv (pv 0) rfl)) Yg (Ys _)))).pt (Yi (Yn Yg)) Yw) (Yi (Yn (XE aR hr (Yv (pv 0) rfl) (Ya (Yl Y2 (Yl Y1 (pv 1) (Yv (pv 0) rfl)) Yg) Yd))))),?_⟩
 cases sh with
 | alike s k =>
  obtain ⟨dx,c,fs,hU,hd,hsm,hns,hp,bQ,hc,hsub⟩:=W.at_ p _ hg;obtain ⟨⟨a,e,hga,hcn⟩,hk1,hk2⟩:=id hsub;have e:fs=fA k a:=e;subst e;have hdr:dep (.alike s k)=dep s+1:=by rw [dep]
  have hcn:(t.ns p - 1) / k<=t.ns a:=hcn;have hlt:kind s=kind s:=rfl;obtain ⟨_,_,_,_,hda,_⟩:=W.at_ a _ hga;have no:(sz<k\/sz%k≠0)->Q (.int 0) H:=λz=>by
   have:=q t H (.refl W _ _) hn (λps z=>by cases z) (QH hp ⟨a,rfl,rfl⟩ (show 4<=6 by decide) (show (sz+1 - 1) / k<=_ from ?_))
   ·rw [Ub,if_pos z] at this
    exact this
   ·rw [hn] at hcn
    rcases z with z | z
    ·rw [b6,Nat.div_eq_of_lt z];exact ι _
    ·rw [b6]
     refine Ο (i5 ?_) hcn
     cases sz with
     | zero=>rfl
     | succ j =>
      rw [Nat.succ_div,if_neg λy=>z (Nat.mod_eq_zero_of_dvd y),b6];rfl
  have emod:(sz:Int)%(k:Int)=((sz%k:Nat):Int):=rfl;have ediv:(sz:Int) / (k:Int)=((sz / k:Nat):Int):=rfl;walk_at "rd";refine ⟨_,_,_,hp,Za,Zk,_,W3 _ _ _,_,rfl,Xv (λc=>no (.inl (by omega))) λc=>⟨_,_,_,hp,Za,Zk,_,W3 _ _ _,_,rfl,by omega,?_⟩⟩;rw [emod];refine Xv (λc2=>no (.inr λz=>c2 (by rw [z];rfl))) λc2=>?_
  have c2:sz%k=0:=by omega
  refine ⟨_,_,_,hp,Za,Zy,_,Uv _ _ _,a,rfl,?_⟩;have h1:1<=sz / k:=(Nat.one_le_div_iff (by omega)).mpr (by omega);have h2:sz / k<=sz:=cE _ _;obtain ⟨j,hj⟩:∃ j,sz / k=j+1:=⟨sz / k - 1,by omega⟩;have fm:fu w j (dep s)+5<=fu w sz (dep (.alike s k)):=Vm (by omega) (by omega);refine (Wt (Q:=Q) W hga (show j<=40 by omega) (by omega) (hR.mono (by omega)) λt2 H2 T2 hn2=>?_).map λsp h=>⟨_,_,_,hp,Za,Zk,_,W3 _ _ _,_,rfl,?_,?_⟩
  ·have T3:Tr (Cs.mk Z0 Z4 Z5 Z6 Z2 Z3 Z1 Z7) w t H t2 H2 sz 0:=T2.mono (by omega)
   have own:=T3.own hg (by omega) (by omega);have:=q t2 H2 (T3.mono (by omega)) (by omega) (λps z=>by cases z) (QH (T2.fr _ _ hU.1 hp) ⟨a,rfl,rfl⟩ (show 4<=6 by decide) (show (sz+1 - 1) / k<=_ by rw [b6,hj];exact hn2));rw [Ub,if_neg (by omega),hj] at this
   exact this
  ·exact YS (by omega) (by omega)
  ·rw [ediv,hj,show ((j+1:Nat):Int) - 1=(j:Int) by omega]
   exact h
 | _=>cases hk
def fV (bk:List Nat->Sh) (q:Sh) (s:Nat):List (Int×Int):=(η s).map λf=>(cnt bk q f,cnt bk (.many q) (s - 1 - f))
inductive pD (C:Cs) (l:Nat) (vs:List V) (H:Hp) (Q:VK) (E_:XK):Prop
 | mk (w:Wo) (t:Sw) (p:Addr) (s:Sh) (left:Nat) (h0:vs=[.ref p,.int left]) (h1:WI C w t H) (h2:w.reg p=some (.many s)) (h3:left<=40) (h4:left<=t.ns p) (h5:fu w left 0+3<=l) (h6:Xk w t left 0) (h7:∀ D t' H',Tr C w t H t' H' left 0->H D=none->¬ t'.U D->Blk H' D (fV w.bk s left)->(∀ dx c a,H p=some (.ins C.many dx (mf c (fM a)))->left<=t'.ns a)->Q (.ref D) H')
theorem YcX {C:Cs} {vs:List V} {H:Hp} {Q:VK} {E:XK} (h:pD C 0 vs H Q E):False:=by
 obtain ⟨w,t,p,s,left,_,_,_,_,_,h,_⟩:=h;omega
theorem Il {k:Nat} {Z1 Z3 Z2 Z5 Z6 Z4 Z7 Z0:Addr} (R:g.aD Z3 "blocks_at" "ManyMaker.blocks_at" zf ["self","left"]) (Z4l:g.Me k Z3 "count_at" ["self","size"] (ZO (Cs.mk Z0 Z4 Z5 Z6 Z2 Z3 Z1 Z7) 4 m)) (aR:g.dw k "count_at" ["self","size"] (Vg (Cs.mk Z0 Z4 Z5 Z6 Z2 Z3 Z1 Z7) (m))) (Zj:g.mg "range"=none) (Zc:Cls g.K Z3) (Zq:Yf g.K Z3 "counts") (Zt:Yf g.K Z3 "part"):g.Me (k+1) Z3 "blocks_at" ["self","left"] (pD (Cs.mk Z0 Z4 Z5 Z6 Z2 Z3 Z1 Z7) (m+1)):=by
 refine R.me Z3x (λvs H Q E h=>by obtain ⟨w,t,p,s,left,rfl,W,hg,hl,iT,hf,hR,q⟩:=h;rfl) λf_ cdv A outer s H vs Q E hr h=>?_
 obtain ⟨w,t,p,s,left,rfl,W,hg,hl,iT,hf,hR,q⟩:=h;refine ⟨_,(Yi (Yn (Xt (src:=[none,some 0,some 1]) (N':=(["first","self","left"]:List Str)) (g:=Yy 0) (.own (.cap (i:=0) rfl rfl (by first | exact .inl rfl | exact .inr rfl) (.cap (i:=1) rfl rfl (by first | exact .inl rfl | exact .inr rfl) .nil))) rfl (Y7 rfl Zj (Ya (pv 1) Yd)) (λcl C s₀ H₀ fp pn=>(Yu (i:=0) (show ax (["first","self","left"]:List Str) by decide +kernel) rfl (.inl rfl) (.inr rfl))) (λcl C s₀ H₀ fp pn=>Y0) (λcl C s₀ H₀ fp pn=>(Y9 (Ya (XE aR hr (Qy (K:=g.K) (pv 1) rfl) (Ya (pv 0) Yd)) (Ya (Xx Z4l Zc hr (pv 1) (Ya (Yl Y2 (Yl Y2 (pv 2) Yg) (pv 0)) Yd)) Yd))))))),?_⟩;obtain ⟨dx,c,fs,hU,hd,hsm,hns,hp,bQ,hc,hsub⟩:=W.at_ p _ hg;obtain ⟨a,e,hga,hcn⟩:=id hsub;have e:fs=fM a:=e;subst e;have hcn:t.ns p - 1<=t.ns a:=hcn;have hdr:dep (.many s)=dep s+1:=by rw [dep]
 obtain ⟨_,_,_,_,hda,_⟩:=W.at_ a _ hga;walk_at "rd";refine WN (n:=left) (λD i zs H'=>∃ t',Tr (Cs.mk Z0 Z4 Z5 Z6 Z2 Z3 Z1 Z7) w t H t' H' left 0/\(0<i->i<=t'.ns a)/\zs.length=i/\H' D=some (.lst zs)/\¬ t'.U D/\∀ (j:Nat) x,zs[j]?=some x->∃ T,x = .ref T/\w.D T=none/\¬ t'.U T/\T≠D/\H' T=some (.tup [.int (cnt w.bk s j),.int (cnt w.bk (.many s) (left - 1 - j))])) (λR r=>by walk_at "rd";exact r) (by omega) ?_ ?_ ?_ ?_
 ·intro D hD
  exact ⟨t,(Tr.refl W _ _).put hD (W.new hD).2 _,λz=>absurd z (by decide),rfl,Yc,(W.new hD).2,λj x hx=>by simp at hx⟩
 ·rintro D i zs H' ⟨t',_,_,h1,h2,_⟩
  exact ⟨h1,h2⟩
 ·rintro D i zs H' hD hi ⟨t',T1,hna,hz,hd',cN,hts⟩ R r
  have fm:fu w i (dep s)+5<=fu w left 0:=Vm (by omega) (by omega);have dD:w.D D=none:=(W.new hD).1;walk_at "rd";refine ⟨_,_,_,T1.fr _ _ hU.1 hp,Zc,Zt,_,Uv _ _ _,a,rfl,?_⟩;refine Wt T1.wi hga (by omega) (by omega) ((T1.ready hR).mono (by omega)) λt2 H2 T2 hn2=>?_
  have gQ:=T1.trans (T2.mono (by omega));have own:=gQ.own hg (by omega) iT;have hd2:=T2.fr _ _ dD hd';have gk:=T2.ours cN hd';have hp2:=gQ.fr _ _ hU.1 hp;rw [show (left:Int) - 1 - (i:Int)=((left - 1 - i:Nat):Int) by omega];refine ⟨_,_,hp2,Wi (by decide +kernel) hsub,w,t2,p,.many s,left - 1 - i,rfl,rfl,T2.wi,hg,by omega,by omega,λ_=>⟨few (by decide),λX gX=>?_⟩,λh=>absurd h (by omega)⟩;have fQ:X≠D:=am (Ym hd2 gX);have sX:=Yj.aj gX (.tup [.int (cnt w.bk s i),.int (cnt w.bk (.many s) (left - 1 - i))]);refine r _ _ (sX _ _ hd2) ⟨t2,(gQ.same sX).put hD gk _,λ_=>hn2,by rw [Μ,hz];rfl,Yc,gk,λj x hx=>?_⟩;by_cases c:j<zs.length
  ·rw [aw c] at hx
   obtain ⟨Y,rfl,y1,y2,y3,y4⟩:=hts j x hx;exact ⟨Y,rfl,y1,T2.ours y2 y4,y3,by rw [Yh y3];exact sX _ _ (T2.fr _ _ y1 y4)⟩
  ·have hj:j=zs.length:=by
    have:=(Η.mp hx).1;rw [Μ,av] at this
    omega
   subst hj;rw [az (Κ _),fq] at hx
   have:V.ref X=x:=Γ hx;subst this;exact ⟨X,rfl,(T2.wi.new gX).1,(T2.wi.new gX).2,fQ,by rw [Yh fQ,Yc,hz]⟩
 ·rintro D zs H' hD ⟨t',T1,hna,hz,hd',cN,hts⟩
  refine q D t' H' T1 hD cN ⟨zs,hd',by rw [hz,fV,Β,aS],λj x y hx hy=>?_⟩ λbR c' a' ha'=>?_
  rotate_left
  ·rw [hp] at ha'
   have e:=Γ ha'
   injection e with _ _ e
   cases V.ref.inj (Uu (Ii e))
   by_cases c:0<left
   ·exact hna c
   ·omega
  have hj:=(Η.mp hx).1;rw [fV,Λ,aI (by omega)] at hy
  cases Γ hy
  obtain ⟨X,rfl,_,_,_,hX⟩:=hts j x hx;exact ⟨X,rfl,hX⟩
theorem Im (bk:List Nat->Sh) (q:Sh) (s:Nat):(fV bk q s).length=s:=by rw [fV,Β,aS]
theorem Io (bk:List Nat->Sh) (q:Sh) (s:Nat):((fV bk q (s+1)).map λp=>p.1*p.2).sum=cnt bk (.many q) (s+1):=by
 rw [YeR,fV,bn];rfl
theorem QI {bk:List Nat->Sh} {q:Sh} {s:Nat} {x:Int×Int} (h:x∈fV bk q s):∃ f,f<s/\x=(cnt bk q f,cnt bk (.many q) (s - 1 - f)):=by
 obtain ⟨f,hf,rfl⟩:=ar.mp h;exact ⟨f,a7.mp hf,rfl⟩
theorem Ip {k:Nat} {Z1 Z3 Z2 Z5 Z6 Z4 Z7 Z0:Addr} (R:g.aD Z3 "reckoned" "ManyMaker.reckoned" zj ["self","size"]) (pB:g.Fn k "ways_of" ["blocks"] (ux g.K)) (zQ:g.Me k Z3 "blocks_at" ["self","left"] (pD (Cs.mk Z0 Z4 Z5 Z6 Z2 Z3 Z1 Z7) m)) (Zc:Cls g.K Z3) (Zq:Yf g.K Z3 "counts") (Zt:Yf g.K Z3 "part"):g.Me (k+1) Z3 "reckoned" ["self","size"] (aO (Cs.mk Z0 Z4 Z5 Z6 Z2 Z3 Z1 Z7) 4 (m+1)):=by
 refine R.me Z3O (λvs H Q E h=>by obtain ⟨w,t,p,sh,sz,rfl,hk,W,hg,hn,hs,hf,hR,q⟩:=h;rfl) λf_ cdv A outer s H vs Q E hr h=>?_
 obtain ⟨w,t,p,sh,sz,rfl,hk,W,hg,hn,hs,hf,hR,q⟩:=h;refine ⟨_,(Yi (Yn (Vt (Yq YK (pv 1) Yg (Ys _)) Yg (Yz pB hr (Ya (Xx zQ Zc hr (pv 0) (Ya (pv 1) Yd)) Yd))))),?_⟩
 cases sh with
 | many s =>
  obtain ⟨dx,c,fs,hU,hd,hsm,hns,hp,bQ,hc,hsub⟩:=W.at_ p _ hg;obtain ⟨a,e,hga,hcn⟩:=id hsub;have e:fs=fM a:=e;subst e;obtain ⟨_,_,_,_,_,jX,_⟩:=W.at_ a _ hga;walk_at "rd";refine Xv (λc=>?_) (λc=>?_)
  ·have e:sz=0:=by omega
   subst e;have:=q t H (.refl W _ _) hn (λps z=>by cases z) (QH hp ⟨a,rfl,rfl⟩ (show 4<=4 by decide) (ι _));rw [Q2] at this
   exact this
  ·obtain ⟨j,rfl⟩:∃ j,sz=j+1:=⟨sz - 1,by omega⟩
   have fz:fu w (j+1) 0<=fu w (j+1) (dep (.many s)):=by unfold fu;omega
   refine ⟨_,_,hp,Wi (by decide +kernel) hsub,w,t,p,s,j+1,rfl,W,hg,hs,by omega,by omega,hR.mono (by omega),λD t' H' T1 gD cN hB hpc=>?_⟩;refine ⟨D,_,rfl,hB,by rw [Im];omega,λx hx=>?_,λH4 s4=>?_⟩
   ·obtain ⟨f,hf',rfl⟩:=QI hx
    exact ⟨jX f (by omega),hsm _ (by omega)⟩
   ·have own:=T1.own hg (ι _) (by omega)
    have:=q t' H4 ((T1.mono (by omega)).same s4) (by omega) (λps z=>by cases z) (QH (s4 _ _ (T1.fr _ _ hU.1 hp)) ⟨a,rfl,rfl⟩ (show 4<=4 by decide) (show j+1+1 - 1<=_ from hpc dx _ a hp));rw [Io];exact this
 | _=>cases hk
theorem Ir {k:Nat} {Z1 Z3 Z2 Z5 Z6 Z4 Z7 Z0:Addr} (R:g.aD Z2 "blocks_at" "PickMaker.blocks_at" yX ["self","size"]) (aR:g.dw k "count_at" ["self","size"] (Vg (Cs.mk Z0 Z4 Z5 Z6 Z2 Z3 Z1 Z7) (m))) (Zb:Cls g.K Z2) (Zp:Yf g.K Z2 "counts") (Zs:Yf g.K Z2 "marks") (Zm:Yf g.K Z2 "parts"):g.Me (k+1) Z2 "blocks_at" ["self","size"] (pC (Cs.mk Z0 Z4 Z5 Z6 Z2 Z3 Z1 Z7) (m+1)):=by
 refine R.me Z3w (λvs H Q E h=>by obtain ⟨w,t,p,mk,ps,sz,rfl,W,hg,hs,hsn,hf,hR,q⟩:=h;rfl) λf_ cdv A outer s H vs Q E hr h=>?_
 obtain ⟨w,t,p,mk,ps,sz,rfl,W,hg,hs,hsn,hf,hR,q⟩:=h;refine ⟨_,(Yi (Yn (Xt (src:=[none,some 1]) (N':=(["part","size"]:List Str)) (g:=Yy 0) (.own (.cap (i:=1) rfl rfl (by first | exact .inl rfl | exact .inr rfl) .nil)) rfl (Xc (Yv (pv 0) rfl)) (λcl C s₀ H₀ fp pn=>(Yu (i:=0) (show ax (["part","size"]:List Str) by decide +kernel) rfl (.inl rfl) (.inr rfl))) (λcl C s₀ H₀ fp pn=>Y0) (λcl C s₀ H₀ fp pn=>(Y9 (Ya (XE aR hr (pv 0) (Ya (pv 1) Yd)) (Ya Yg Yd))))))),?_⟩;walk_at "rd";obtain ⟨dx,c,fs,hU,hd,hsm,hns,hp,bQ,hc,hsub⟩:=W.at_ p _ hg;obtain ⟨M,P,as,rfl,h2,h3,h4,h5,h6,h7⟩:=hsub;have hdr:dep (.pick mk ps)=YG ps+1:=by rw [dep]
 have hal:=h6.1;refine T8 (K:=g.K) (b:=P) (xs:=as.map V.ref) (λD i zs H'=>∃ t',Tr (Cs.mk Z0 Z4 Z5 Z6 Z2 Z3 Z1 Z7) w t H t' H' sz (YG ps+1)/\(∀ (j:Nat) a,j<i->as[j]?=some a->sz<t'.ns a)/\zs.length=i/\H' D=some (.lst zs)/\¬ t'.U D/\∀ (j:Nat) x q,zs[j]?=some x->ps[j]?=some q->∃ T,x = .ref T/\w.D T=none/\¬ t'.U T/\T≠D/\H' T=some (.tup [.int (cnt w.bk q sz),.int 1])) (λR r=>by walk_at "rd";exact ⟨_,_,_,hp,Zb,Zm,_,Q3 _ _ _,r⟩) (ao.of h5) (by rw [Β];omega) ?_ ?_ ?_ ?_
 ·intro D hD
  exact ⟨t,(Tr.refl W _ _).put hD (W.new hD).2 _,λj a hj=>absurd hj (Nat.not_lt_zero _),rfl,Yc,(W.new hD).2,λj x q hx=>by simp at hx⟩
 ·rintro D i zs H' hD ⟨t',T1,_,h1,h2',_⟩
  exact ⟨h1,h2',ao.of (T1.fr _ _ h3.1 h5)⟩
 ·rintro D i x zs H' hD hx ⟨t',T1,hna,hz,hd',cN,hts⟩ R r
  rw [Λ] at hx
  obtain ⟨a,ha,rfl⟩:=ε.mp hx;have hi:=(Η.mp ha).1;have hpi:ps[i]?=some (ps[i]'(by omega)):=Ε _;generalize ps[i]'(by omega)=sh at hpi;have hga:=h6.2 i a sh ha hpi;have hds:dep sh<=YG ps:=X5 (Τ hpi);have fm:fu w sz (dep sh)+5<=fu w sz (YG ps+1):=Vm (by omega) (by omega);have dD:w.D D=none:=(W.new hD).1;walk_at "rd";refine Wt T1.wi hga (by omega) (by omega) ((T1.ready hR).mono (by omega)) λt2 H2 T2 hn2=>⟨few (by decide),λX gX=>?_⟩
  have gQ:=T1.trans (T2.mono (by omega));have hd2:=T2.fr _ _ dD hd';have gk:=T2.ours cN hd';have fQ:X≠D:=am (Ym hd2 gX);have sX:=Yj.aj gX (.tup [.int (cnt w.bk sh sz),.int 1]);have N5:∀ (j:Nat) b,j<i+1->as[j]?=some b->sz<t2.ns b:=λj b hj hb=>by
   by_cases c:j<i
   ·have hpj:ps[j]?=some (ps[j]'(by have:=(Η.mp hb).1;omega)):=Ε _
    have:=(T2.gr b _ (h6.2 j b _ hb hpj)).up;have:=hna j b c hb;omega
   ·have:j=i:=by omega
    subst this;rw [ha] at hb
    cases Γ hb
    exact hn2
  refine r _ _ (sX _ _ hd2) ⟨t2,(gQ.same sX).put hD gk _,N5,by rw [Μ,hz];rfl,Yc,gk,λj x q hx hq=>?_⟩;by_cases c:j<zs.length
  ·rw [aw c] at hx
   obtain ⟨Y,rfl,y1,y2,y3,y4⟩:=hts j x q hx hq;exact ⟨Y,rfl,y1,T2.ours y2 y4,y3,by rw [Yh y3];exact sX _ _ (T2.fr _ _ y1 y4)⟩
  ·have hj:j=zs.length:=by
    have:=(Η.mp hx).1;rw [Μ,av] at this
    omega
   subst hj;rw [az (Κ _),fq] at hx
   have:V.ref X=x:=Γ hx;subst this;rw [hz,hpi] at hq
   have:=Γ hq;subst this;exact ⟨X,rfl,(T2.wi.new gX).1,(T2.wi.new gX).2,fQ,by rw [Yh fQ,Yc]⟩
 ·rintro D zs H' hD ⟨t',T1,hna,hz,hd',cN,hts⟩
  rw [Β] at hz hna
  refine q D t' H' T1 hD cN ⟨zs,hd',by rw [hz,Β,hal],λj x y hx hy=>?_⟩ λa' ha'=>?_
  rotate_left
  ·obtain ⟨j,hj⟩:=List.mem_iff_getElem?.mp (YeT hp h5 ha')
   exact hna j a' (Η.mp hj).1 hj
  have hj:=(Η.mp hx).1;rw [Λ] at hy
  obtain ⟨q',hq',rfl⟩:=ε.mp hy;obtain ⟨X,rfl,_,_,_,hX⟩:=hts j x q' hx hq';exact ⟨X,rfl,hX⟩
theorem Iu {k:Nat} {Z1 Z3 Z2 Z5 Z6 Z4 Z7 Z0:Addr} (R:g.aD Z2 "reckoned" "PickMaker.reckoned" yZ ["self","size"]) (pB:g.Fn k "ways_of" ["blocks"] (ux g.K)) (zR:g.Me k Z2 "blocks_at" ["self","size"] (pC (Cs.mk Z0 Z4 Z5 Z6 Z2 Z3 Z1 Z7) m)) (Zb:Cls g.K Z2) (Zp:Yf g.K Z2 "counts") (Zs:Yf g.K Z2 "marks") (Zm:Yf g.K Z2 "parts"):g.Me (k+1) Z2 "reckoned" ["self","size"] (aO (Cs.mk Z0 Z4 Z5 Z6 Z2 Z3 Z1 Z7) 3 (m+1)):=by
 refine R.me Z3M (λvs H Q E h=>by obtain ⟨w,t,p,sh,sz,rfl,hk,W,hg,hn,hs,hf,hR,q⟩:=h;rfl) λf_ cdv A outer s H vs Q E hr h=>?_
 obtain ⟨w,t,p,sh,sz,rfl,hk,W,hg,hn,hs,hf,hR,q⟩:=h;refine ⟨_,(Yi (Yn (Yz pB hr (Ya (Xx zR Zb hr (pv 0) (Ya (pv 1) Yd)) Yd)))),?_⟩
 cases sh with
 | pick mk ps =>
  obtain ⟨dx,c,fs,hU,hd,hsm,hns,hp,bQ,hc,hsub⟩:=W.at_ p _ hg;have hno:=λ{m:Str} (h:isF m=false)=>Wi (c:=c) h hsub
  obtain ⟨M,P,as,rfl,h2,h3,h4,h5,h6,h7⟩:=hsub;have hdr:dep (.pick mk ps)=YG ps+1:=by rw [dep]
  rw [hdr] at hf hR
  walk_at "rd";refine ⟨_,_,hp,hno (by decide +kernel),w,t,p,mk,ps,sz,rfl,W,hg,hs,by omega,by omega,hR.mono (by omega),λD t' H' T1 gD cN hB hpc=>?_⟩;refine ⟨D,_,rfl,hB,by rw [Β];omega,λx hx=>?_,λH4 s4=>?_⟩
  ·obtain ⟨q',hq',rfl⟩:=ar.mp hx
   obtain ⟨i,hi,rfl⟩:=List.getElem_of_mem hq';have hai:as[i]?=some (as[i]'(by have:=h6.1;omega)):=Ε _;have hga:=h6.2 i _ _ hai (Ε hi);obtain ⟨_,_,_,_,_,jX,_⟩:=W.at_ _ _ hga;exact ⟨jX _ (by omega),1,by decide,(by decide:(1:Int).natAbs<2^1)⟩
  ·have own:=T1.own hg (by omega) (by omega)
   have:=q t' H4 (by rw [hdr];exact (T1.mono (by omega)).same s4) (by omega) (λps z=>by cases z) (λbR c' fs bs e h b hb=>by
    obtain ⟨M',P',rfl,hP'⟩:=h;rw [s4 _ _ (T1.fr _ _ hU.1 hp)] at e
    have e:=Γ e
    injection e with _ _ e
    obtain ⟨_,rfl⟩:=Ig e;rw [s4 _ _ (T1.fr _ _ h3.1 h5)] at hP'
    have e:=Γ hP'
    injection e with e
    cases VI e
    have:=hpc b ⟨dx,c,M,P,as,hp,h5,hb⟩
    show sz+1<=_
    omega)
   rw [Hi] at this
   rw [bn,show ((λp=>p.1*p.2) ∘ λsh=>(cnt w.bk sh sz,(1:Int)))=λsh=>cnt w.bk sh sz by funext z;exact Int.mul_one _];exact this
 | _=>cases hk
abbrev aU:=List (List Nat×Sh)
def aF (prs:aU) (x:List Nat):Sh:=((prs.find? λq=>decide (q.1=x)).map (·.2)).getD (.row [])
mutual
def aG (prs:aU):Sh->Prop
 | .w _ _=>True
 | .t sg=>1<=sg.length/\sg.length<=62/\∀ c∈sg,c<1000
 | .row ps=>ps.length<=100/\Xe prs ps
 | .pick mk ps=>mk.length=ps.length/\ps.length<=100/\Xe prs ps/\∀ m∈mk,bc (S m)=true
 | .many p=>aG prs p
 | .alike p n=>aG prs p/\1<=n/\n<=100
 | .use x=>∃ q,(prs.find? λq=>decide (q.1=x))=some q
def Xe (prs:aU):List Sh->Prop
 | []=>True
 | p::ps=>aG prs p/\Xe prs ps
end
theorem Wu {prs:aU} {p:Sh}:∀ {ps:List Sh},Xe prs ps->p∈ps->aG prs p
 | q::ps,h,hm=>by
  rw [Xe] at h
  rcases Φ.mp hm with rfl | hm
  ·exact h.1
  ·exact Wu h.2 hm
theorem UM {prs:aU}:∀ {ps:List Sh} (i:Nat),Xe prs ps->Xe prs (ps.drop i)
 | _,0,h=>h
 | [],i+1,h=>h
 | q::ps,i+1,h=>by
  rw [Xe] at h
  exact UM i h.2
mutual
def wt:Sh->Nat
 | .row ps=>aN ps+1
 | .pick _ ps=>aN ps+1
 | .many p=>wt p+1
 | .alike p _=>wt p+1
 | _=>1
def aN:List Sh->Nat
 | []=>0
 | p::ps=>wt p+aN ps
end
theorem Vo (sh:Sh):1<=wt sh:=by cases sh<;>simp [wt]
theorem zT {p:Sh}:∀ {ps:List Sh},p∈ps->wt p<=aN ps
 | q::ps,h=>by
  rw [aN];rcases Φ.mp h with rfl | h
  ·omega
  ·have:=zT h
   omega
theorem VJ:∀ (ps:List Sh) (i:Nat),aN (ps.drop i)<=aN ps
 | _,0=>Κ _
 | [],i+1=>Κ _
 | q::ps,i+1=>by
  have:=VJ ps i;rw [List.drop_succ_cons,aN];omega
theorem U7 {a b:List Nat} (h:S a=S b):a=b:=by
 unfold S at h
 injection h with h
 have:=congrArg Array.toList h;simpa using this
def uz:Ζ->Str
 | .tuple (.str x::_)=>x
 | _=>""
def tg (k:Nat):Str:=(["whole","text","row","pick","many","use","alike"]:List Str).getD k ""
theorem Iv (a:Sh):uz (kd a)=tg (kind a):=by cases a<;>rw [kd]<;>rfl
theorem YgQ:∀ i<7,∀ j<7,tg i=tg j->i=j:=by decide +kernel
theorem Iw (a:Sh):kind a<7:=by cases a<;>simp [kind]
theorem Wv {a b:Sh} (h:kd a=kd b):kind a=kind b:=YgQ _ (Iw a) _ (Iw b) (by rw [<- Iv,<- Iv,h])
mutual
theorem Ud {prs:aU}:∀ {a b:Sh},aG prs a->aG prs b->kd a=kd b->a=b
 | .w lo span,b,_,_,h=>by
  cases b with
  | w lo' span' =>
   simp only [kd,b5,b7,PyData.int.injEq,and_true,true_and] at h;obtain ⟨rfl,h⟩:=h;have:span=span':=by omega
   rw [this]
  | _=>cases Wv h
 | .t sg,b,_,_,h=>by
  cases b with
  | t sg' =>
   simp only [kd,b5,b7,PyData.str.injEq,and_true,true_and] at h;rw [U7 h]
  | _=>cases Wv h
 | .row ps,b,h1,h2,h=>by
  cases b with
  | row ps' =>
   simp only [kd,b5,b7,and_true,true_and] at h;rw [aG] at h1 h2
   rw [Iz h1.2 h2.2 h]
  | _=>cases Wv h
 | .pick mk ps,b,h1,h2,h=>by
  cases b with
  | pick mk' ps' =>
   simp only [kd,b5,b7,and_true,true_and] at h;rw [aG] at h1 h2
   obtain ⟨e1,e2⟩:=IK h1.1 h2.1 h1.2.2.1 h2.2.2.1 h;rw [e1,e2]
  | _=>cases Wv h
 | .many p,b,h1,h2,h=>by
  cases b with
  | many p' =>
   simp only [kd,b5,b7,and_true,true_and] at h;rw [aG] at h1 h2
   rw [Ud h1 h2 h]
  | _=>cases Wv h
 | .alike p n,b,h1,h2,h=>by
  cases b with
  | alike p' n' =>
   simp only [kd,b5,b7,PyData.int.injEq,and_true,true_and] at h;rw [aG] at h1 h2
   rw [Ud h1.1 h2.1 h.1,Int.ofNat.inj h.2]
  | _=>cases Wv h
 | .use x,b,_,_,h=>by
  cases b with
  | use x' =>
   simp only [kd,b5,b7,PyData.str.injEq,and_true,true_and] at h;rw [U7 h]
  | _=>cases Wv h
theorem Iz {prs:aU}:∀ {a b:List Sh},Xe prs a->Xe prs b->bJ a=bJ b->a=b
 | [],[],_,_,_=>rfl
 | p::ps,q::qs,h1,h2,h=>by
  rw [bJ,bJ] at h
  rw [Xe] at h1 h2
  injection h with e1 e2
  rw [Ud h1.1 h2.1 e1,Iz h1.2 h2.2 e2]
 | [],_::_,_,_,h=>by simp [bJ] at h
 | _::_,[],_,_,h=>by simp [bJ] at h
theorem IK {prs:aU}:∀ {mk mk':List (List Nat)} {a b:List Sh},mk.length=a.length->mk'.length=b.length->Xe prs a->Xe prs b->kdp mk a=kdp mk' b->mk=mk'/\a=b
 | [],[],[],[],_,_,_,_,_=>⟨rfl,rfl⟩
 | m::mk,m'::mk',p::ps,q::qs,l1,l2,h1,h2,h=>by
  rw [kdp,kdp] at h
  rw [Xe] at h1 h2
  injection h with e1 e2
  simp only [b5,b7,PyData.str.injEq,and_true] at e1;obtain ⟨r1,r2⟩:=IK (by simpa using l1) (by simpa using l2) h1.2 h2.2 e2;rw [U7 e1.1,Ud h1.1 h2.1 e1.2,r1,r2];exact ⟨rfl,rfl⟩
 | [],_,_::_,_,l,_,_,_,_=>by simp at l
 | _::_,_,[],_,l,_,_,_,_=>by simp at l
 | _,[],_,_::_,_,l,_,_,_=>by simp at l
 | _,_::_,_,[],_,l,_,_,_=>by simp at l
 | [],_::_,[],_::_,_,_,_,_,h=>by simp [kdp] at h
 | _::_,[],_::_,[],_,_,_,_,h=>by simp [kdp] at h
end
theorem pn {a b:Nat} (h:a<=b):(2:Nat)^a<=2^b:=em (by decide) h
theorem IV {α β:Type} {f:α->List β} {B:Nat}:∀ {l:List α},(∀ x∈l,(f x).length<=B)->(l.flatMap f).length<=l.length*B
 | [],_=>by simp
 | a::l,h=>by
  have h1:=h a (.head _);have h2:=IV (l:=l) λx hx=>h x (.tail _ hx)
  rw [ej,Μ,χ,ib];omega
theorem IW {β:Type} {f:Nat->List β} {n B D:Nat} (hn:n<=64) (h:∀ x<n,(f x).length<=2^B) (hD:6+B<=D):((η n).flatMap f).length<=2^D:=by
 refine Ο (IV λx hx=>h x (a7.mp hx)) ?_;rw [aS];refine Ο (c8 _ (show n<=2^6 by omega)) ?_;rw [<- Nat.pow_add];exact pn hD
theorem zU {α β γ:Type} {g:α->β->γ} {A:List α} {B:List β} {a b:Nat} (h1:A.length<=2^a) (h2:B.length<=2^b):(aZ g A B).length<=2^(a+b):=by
 rw [XZ,Nat.pow_add];exact Nat.mul_le_mul h1 h2
theorem Ja {sg:List Nat} (h:sg.length<=62):∀ s,(bU sg s).length<=2^(6*s)
 | 0=>Κ _
 | s+1=>by
  rw [bU];exact zU (b:=6) (Ja h s) (by omega)
theorem Jb {α:Type} {F:Nat->List α} {a:Nat} (ha:a<=282):∀ {n s:Nat},(∀ f,f<n->(F f).length<=2^(300*f+a))->s<=n->n<=45->(bZ F s).length<=2^(300*s)
 | n,0,_,_,_=>Κ _
 | n,s+1,h,hs,hn=>by
  rw [XA];exact IW (B:=300*s+a) (by omega) (λf hf=>Ο (zU (h f (by omega)) (Jb ha (s:=s - f) h (by omega) hn)) (pn (by omega))) (by omega)
theorem Jc (span:Nat) (s:Nat):0<=wc span s/\wc span s<=2^s:=by
 have p:(0:Int)<2^s:=Int.pow_pos (by decide);unfold wc
 split
 ·split<;>omega
 ·omega
structure iU (prs:aU):Prop where
 len:prs.length<=3
 ok:∀ q∈prs,aG prs q.2
 wt:∀ q∈prs,wt q.2<=24
 dp:∀ q∈prs,dep q.2<=2
theorem QJ {prs:aU} {x:List Nat} {q:List Nat×Sh} (h:(prs.find? λq=>decide (q.1=x))=some q):aF prs x=q.2/\q∈prs:=by
 rw [aF,h];exact ⟨rfl,List.mem_of_find?_eq_some h⟩
section
 variable {E:List Nat->Nat->List Ζ} {prs:aU} {n:Nat}
mutual
theorem Vp (hn:n<=45) (hE:∀ x s,aG prs (.use x)->s<n->(E x s).length<=2^(300*s+282)):∀ (sh:Sh) (s:Nat),s<=n->aG prs sh->wt sh<=24->(bf E sh s).length<=2^(300*s+(12*wt sh - 6))
 | .w lo span,s,hs,h,hw=>by
  rw [bf,Β,aS];have e:((2^s:Nat):Int)=2^s:=by norm_cast
  have h2:=(Jc span s).2;rw [<- e] at h2
  exact Ο (Int.toNat_le.mpr h2) (pn (show s<=300*s+(12*wt (.w lo span) - 6) by omega))
 | .t sg,s,hs,h,hw=>by
  rw [aG] at h
  rw [bf,Β];exact Ο (Ja h.2.1 s) (pn (by omega))
 | .row ps,s,hs,h,hw=>by
  rw [aG] at h
  rw [wt] at hw ⊢
  rw [bf,Β];exact Ο (zV hn hE ps s hs h.2 (by omega)) (pn (by omega))
 | .pick mk ps,s,hs,h,hw=>by
  rw [aG] at h
  rw [wt] at hw ⊢
  rw [bf];exact Ο (Jd hn hE mk ps s hs h.2.2.1 (by omega)) (pn (by omega))
 | .many p,s,hs,h,hw=>by
  rw [aG] at h
  rw [wt] at hw ⊢
  rw [bf,Β];exact Ο (Jb (a:=12*wt p - 6) (by omega) (λf hf=>Vp hn hE p f (by omega) h (by omega)) hs hn) (pn (by omega))
 | .alike p k,s,hs,h,hw=>by
  rw [aG] at h
  rw [wt] at hw ⊢
  rw [bf]
  split
  ·exact ι _
  ·rw [Β]
   have:=cE s k;exact Ο (Vp hn hE p (s / k - 1) (by omega) h.1 (by omega)) (pn (by omega))
 | .use x,s,hs,h,hw=>by
  rw [bf]
  split
  ·exact ι _
  ·exact Ο (hE x (s - 1) h (by omega)) (pn (by omega))
theorem zV (hn:n<=45) (hE:∀ x s,aG prs (.use x)->s<n->(E x s).length<=2^(300*s+282)):∀ (ps:List Sh) (s:Nat),s<=n->Xe prs ps->aN ps<=24->(dZ E ps s).length<=2^(300*s+12*aN ps)
 | [],s,hs,h,hw=>by
  rw [dZ]
  split
  ·exact Nat.one_le_two_pow
  ·exact ι _
 | p::ps,s,hs,h,hw=>by
  rw [Xe] at h
  rw [aN] at hw ⊢
  have:=Vo p;rw [dZ];exact IW (B:=300*s+(12*wt p - 6)+12*aN ps) (by omega) (λf hf=>Ο (zU (Vp hn hE p f (by omega) h.1 (by omega)) (zV hn hE ps (s - f) (by omega) h.2 (by omega))) (pn (by omega))) (by omega)
theorem Jd (hn:n<=45) (hE:∀ x s,aG prs (.use x)->s<n->(E x s).length<=2^(300*s+282)):∀ (mk:List (List Nat)) (ps:List Sh) (s:Nat),s<=n->Xe prs ps->aN ps<=24->(cC E mk ps s).length<=2^(300*s+12*aN ps)
 | mk,[],s,hs,h,hw=>by rw [cC];exact ι _
 | mk,p::ps,s,hs,h,hw=>by
  rw [Xe] at h
  rw [aN] at hw ⊢
  have:=Vo p;rw [cC,Μ,Β];have a:=Ο (Vp hn hE p s hs h.1 (by omega)) (pn (show _<=300*s+12*(wt p+aN ps) - 1 by omega));have b:=Ο (Jd hn hE mk.tail ps s hs h.2 (by omega)) (pn (show _<=300*s+12*(wt p+aN ps) - 1 by omega));obtain ⟨j,hj⟩:∃ j,300*s+12*(wt p+aN ps)=j+1:=⟨300*s+12*(wt p+aN ps) - 1,by omega⟩;rw [hj,b6] at a b
  rw [hj,Nat.pow_succ];omega
end
end
section
 variable (prs:aU) (ob:iU prs)
 include ob
theorem zW:∀ (n:Nat) (x:List Nat) (s:Nat),s<=45->aG prs (.use x)->s<n->(gP (aF prs) n x s).length<=2^(300*s+282)
 | n+1,x,s,h45,h,hs=>by
  rw [aG] at h
  obtain ⟨q,hq⟩:=h;obtain ⟨e,hm⟩:=QJ hq
  show (bf (gP (aF prs) n) (aF prs x) s).length<=_
  rw [e];have:=ob.wt q hm;exact Ο (Vp (n:=s) h45 (λx' s' h' hs'=>zW n x' s' (by omega) h' (by omega)) q.2 s (Κ _) (ob.ok q hm) this) (pn (by omega))
theorem Ue (sh:Sh) (s:Nat) (hs:s<=45) (h:aG prs sh) (hw:wt sh<=24):0<=cnt (aF prs) sh s/\cnt (aF prs) sh s<=2^(300*s+(12*wt sh - 6)):=by
 refine ⟨rT _ _ _,?_⟩;have:=Vp (n:=s) hs (λx' s' h' hs'=>zW prs ob s x' s' (by omega) h' hs') sh s (Κ _) h hw;rw [cnt]
 exact_mod_cast this
theorem Je (ps:List Sh) (s:Nat) (hs:s<=45) (h:Xe prs ps) (hw:aN ps<=24):0<=YU (aF prs) ps s/\YU (aF prs) ps s<=2^(300*s+12*aN ps):=by
 refine ⟨CQ _ _ _,?_⟩;have:=zV (n:=s) hs (λx' s' h' hs'=>zW prs ob s x' s' (by omega) h' hs') ps s (Κ _) h hw;rw [YU]
 exact_mod_cast this
end
mutual
theorem X3:∀ sh:Sh,KO (kd sh)
 | .w _ _=>by rw [kd];exact .tup (.cons (.str _) (.cons (.int _) (.cons (.int _) .nil)))
 | .t _=>by rw [kd];exact .tup (.cons (.str _) (.cons (.str _) .nil))
 | .many p=>by rw [kd];exact .tup (.cons (.str _) (.cons (X3 p) .nil))
 | .alike p _=>by rw [kd];exact .tup (.cons (.str _) (.cons (X3 p) (.cons (.int _) .nil)))
 | .row ps=>by rw [kd];exact .tup (.cons (.str _) (.cons (.tup (Jf ps)) .nil))
 | .pick mk ps=>by rw [kd];exact .tup (.cons (.str _) (.cons (.tup (Jg mk ps)) .nil))
 | .use _=>by rw [kd];exact .tup (.cons (.str _) (.cons (.str _) .nil))
theorem Jf:∀ ps:List Sh,fL (bJ ps)
 | []=>by rw [bJ];exact .nil
 | p::ps=>by rw [bJ];exact .cons (X3 p) (Jf ps)
theorem Jg:∀ (mk:List (List Nat)) (ps:List Sh),fL (kdp mk ps)
 | m::mk,p::ps=>by rw [kdp];exact .cons (.tup (.cons (.str _) (.cons (X3 p) .nil))) (Jg mk ps)
 | [],_=>by simp only [kdp];exact .nil
 | _::_,[]=>by simp only [kdp];exact .nil
end
theorem Xd {K:Ι} {H:Hp} {v:V} {ds:List Ζ} (h:Den K H v (.tuple ds)):∃ b vs,v = .ref b/\aH K H b vs/\bI K H vs ds:=by
 cases h with
 | tup h1 h2=>exact ⟨_,_,rfl,h1,h2⟩
theorem XF {K:Ι} {H:Hp} {v:V} {x:Str} (h:Den K H v (.str x)):v = .str x:=by cases h;rfl
theorem WS {K:Ι} {H:Hp} {v:V} {x:Int} (h:Den K H v (.int x)):v = .int x:=by cases h;rfl
theorem YH {K:Ι} {H:Hp} {vs:List V} {d:Ζ} {ds:List Ζ} (h:bI K H vs (d::ds)):∃ v r,vs=v::r/\Den K H v d/\bI K H r ds:=by
 cases h with
 | cons h1 h2=>exact ⟨_,_,rfl,h1,h2⟩
theorem XV {K:Ι} {H:Hp} {vs:List V} (h:bI K H vs []):vs=[]:=by cases h;rfl
theorem Qh (sh:Sh):∃ ds,kd sh = .tuple ds:=by cases sh<;>exact ⟨_,by rw [kd]⟩
theorem Jh {K:Ι} {H:Hp}:∀ {ps:List Sh} {vs:List V},bI K H vs (bJ ps)->∃ bs:List Addr,vs=bs.map V.ref/\bs.length=ps.length/\∀ (i:Nat) b q,bs[i]?=some b->ps[i]?=some q->Den K H (.ref b) (kd q)
 | [],vs,h=>by
  rw [bJ] at h
  exact ⟨[],XV h,rfl,λi b q h=>by simp at h⟩
 | p::ps,vs,h=>by
  rw [bJ] at h
  obtain ⟨v,r,rfl,h1,h2⟩:=YH h;obtain ⟨bs,rfl,hl,hb⟩:=Jh h2;obtain ⟨ds,hd⟩:=Qh p;obtain ⟨b,_,rfl,_,_⟩:=Xd (by rw [hd] at h1;exact h1);refine ⟨b::bs,rfl,by simp [hl],λi b' q e1 e2=>?_⟩
  cases i with
  | zero =>
   have z1:b=b':=Γ e1;have z2:p=q:=Γ e2;subst z1 z2;exact h1
  | succ i=>exact hb i b' q (by simpa using e1) (by simpa using e2)
theorem VM {K:Ι} {H:Hp}:∀ {mk:List (List Nat)} {ps:List Sh} {vs:List V},mk.length=ps.length->bI K H vs (kdp mk ps)->∃ ts bs:List Addr,vs=ts.map V.ref/\ts.length=ps.length/\bs.length=ps.length/\(∀ (i:Nat) T m b,ts[i]?=some T->mk[i]?=some m->bs[i]?=some b->aH K H T [.str (S m),.ref b])/\∀ (i:Nat) b q,bs[i]?=some b->ps[i]?=some q->Den K H (.ref b) (kd q)
 | [],[],vs,_,h=>by
  rw [show kdp [] []=[] by simp [kdp]] at h
  exact ⟨[],[],XV h,rfl,rfl,λi T m b h=>by simp at h,λi b q h=>by simp at h⟩
 | m::mk,p::ps,vs,hl,h=>by
  rw [kdp] at h
  obtain ⟨v,r,rfl,h1,h2⟩:=YH h;obtain ⟨ts,bs,rfl,l1,l2,hT,hb⟩:=VM (by simpa using hl) h2;obtain ⟨T,us,rfl,h3,h4⟩:=Xd h1;obtain ⟨u1,r1,rfl,h5,h6⟩:=YH h4;obtain ⟨u2,r2,rfl,h7,h8⟩:=YH h6;have:=XV h8;subst this;have:=XF h5;subst this;obtain ⟨ds,hd⟩:=Qh p;obtain ⟨b,_,rfl,_,_⟩:=Xd (by rw [hd] at h7;exact h7);refine ⟨T::ts,b::bs,rfl,by simp [l1],by simp [l2],λi T' m' b' e1 e2 e3=>?_,λi b' q e1 e2=>?_⟩
  ·cases i with
   | zero =>
    have z1:T=T':=Γ e1;have z2:m=m':=Γ e2;have z3:b=b':=Γ e3;subst z1 z2 z3;exact h3
   | succ i=>exact hT i T' m' b' (by simpa using e1) (by simpa using e2) (by simpa using e3)
  ·cases i with
   | zero =>
    have z1:b=b':=Γ e1;have z2:p=q:=Γ e2;subst z1 z2;exact h7
   | succ i=>exact hb i b' q (by simpa using e1) (by simpa using e2)
 | [],_::_,_,hl,_=>by simp at hl
 | _::_,[],_,hl,_=>by simp at hl
theorem Q4 {q:Sh}:∀ {ps:List Sh},q∈ps->(kd q).depth<=δ (bJ ps)
 | p::ps,h=>by
  rw [bJ];simp only [δ];rcases Φ.mp h with rfl | h
  ·omega
  ·have:=Q4 h
   omega
theorem Q5 {q:Sh}:∀ {mk:List (List Nat)} {ps:List Sh},mk.length=ps.length->q∈ps->(kd q).depth<=δ (kdp mk ps)
 | m::mk,p::ps,hl,h=>by
  rw [kdp];simp only [δ,υ];rcases Φ.mp h with rfl | h
  ·omega
  ·have:=Q5 (mk:=mk) (by simpa using hl) h
   omega
 | [],_::_,hl,_=>by simp at hl
def XL:Sh->List Sh
 | .row ps=>ps
 | .pick _ ps=>ps
 | .many p=>[p]
 | .alike p _=>[p]
 | _=>[]
section
variable {src:List (Option Nat)} {te:TE} {σ:St} {H:Hp} {Q:VK}
theorem Qi {K:Ι} {tl:TE} {b:Addr} {xs:List V} (ps:List (V×V)) (ys:List V) (ha:∀ R:V->Hp->Prop,R (.ref b) H->tl σ H R) (hS:aH K H b xs) (hp:∀ (i:Nat) x p,xs[i]?=some x->ps[i]?=some p->∃ T,x = .ref T/\aH K H T [p.1,p.2]) (hl:ps.length=xs.length) (hl2:ys.length=xs.length) (hlen:xs.length<=100000)
  (step:∀ (i:Nat) p y H',ps[i]?=some p->ys[i]?=some y->Yj H H'->∀ R:VK,(∀ aM,Yj H' aM->R y aM)->te (some p.1::some p.2::YB src σ) H' R)
  (fin:∀ D H',H D=none->Yj H H'->H' D=some (.lst ys)->Q (.ref D) H'):c7 (none::none::src) (rm K tl) (Vf K 2 (XB (Yy 0) (XB (Yy 1) Vv))) XO te σ H Q:=by
 refine ha _ ⟨b,rfl,⟨xs,hS⟩,λD hD=>?_⟩;have h6:100000<sizeLine:=by decide
 refine W9 (Sq.imp λH' (e:Yj H H')=>e.tup hS) (λi zs σ' H'=>zs=ys.take i/\(∃ o o',σ'=o::o'::YB src σ)/\Yj H H'/\H' D=some (.lst zs)) ⟨by simp,⟨none,none,rfl⟩,.aj hD _,Yc⟩ (λi zs σ' H' p=>⟨p.2.2.1,p.2.2.2⟩) (UB K 0 1) ?_ ?_
 ·rintro i zs σ' H' x hx ⟨rfl,⟨o,o',rfl⟩,sm,hd⟩
  have hi:=(Η.mp hx).1;have hy:ys[i]?=some (ys[i]'(by omega)):=Ε _;have hpi:ps[i]?=some (ps[i]'(by omega)):=Ε _;obtain ⟨T,rfl,hT⟩:=hp i x _ hx hpi;refine ⟨T,_,rfl,sm.tup hT,rfl,_,_,rfl,_,_,rfl,rfl,?_⟩;refine step i _ _ H' hpi hy sm _ λaM s2=>⟨s2 _ _ hd,?_,(Y4 hy).symm,⟨_,_,rfl⟩,.bV hD (sm.trans s2) _,Yc⟩
  rw [ay];omega
 ·rintro zs σ' H' ⟨rfl,_,sm,hd⟩
  rw [<- hl2,di] at hd
  exact fin D H' hD sm hd
theorem YcZ {K:Ι} {tl:TE} (G:Addr->List V->Hp->Prop) (ha:∀ R:V->Hp->Prop,(∀ b xs H1,G b xs H1->R (.ref b) H1)->tl σ H R)
  (hb:∀ b xs H1,G b xs H1->ao K H1 b xs/\xs.length<=100000/\∃ I:Addr->Nat->List V->Hp->Prop,(∀ D,H1 D=none->I D 0 [] (upd H1 D (.lst [])))/\(∀ D i zs H',H1 D=none->I D i zs H'->zs.length=i/\H' D=some (.lst zs)/\ao K H' b xs) /\
   (∀ D (i:Nat) x zs H',H1 D=none->xs[i]?=some x->I D i zs H'->∀ R:VK,(∀ y aM,aM D=some (.lst zs)->I D (i+1) (zs++[y]) (upd aM D (.lst (zs++[y])))->R y aM)->te (some x::YB src σ) H' R) /\
   (∀ D zs H',H1 D=none->I D xs.length zs H'->Q (.ref D) H')):c7 (none::src) (Wb K tl) (Yy 0) XO te σ H Q:=by
 refine ha _ λb xs H1 hG=>?_
 obtain ⟨hS,hlen,I,i0,dl,step,fin⟩:=hb b xs H1 hG;refine ⟨b,rfl,⟨xs,hS⟩,λD hD=>?_⟩;have h6:100000<sizeLine:=by decide
 refine W9 XW (λi zs σ' H'=>(∃ o,σ'=o::YB src σ)/\i<=xs.length/\I D i zs H') ⟨⟨none,rfl⟩,ι _,i0 D hD⟩ (λi zs σ' H' q=>⟨(dl _ _ _ _ hD q.2.2).2.2,(dl _ _ _ _ hD q.2.2).2.1⟩) (XX 0) ?_ ?_
 ·rintro i zs σ' H' x hx ⟨⟨o,rfl⟩,_,hI⟩
  have hi:i<xs.length:=(Η.mp hx).1;have hl:=(dl _ _ _ _ hD hI).1
  show te (some x::YB src σ) H' _
  exact step D i x zs H' hD hx hI _ λy aM hd hI'=>⟨hd,by omega,⟨_,rfl⟩,hi,hI'⟩
 ·rintro zs σ' H' ⟨_,_,hI⟩
  exact fin D zs H' hD hI
end
theorem Wj {K:Ι} {H:Hp} {a:Addr} {x:Str} {d:Ζ} (h:Den K H (.ref a) (.tuple [.str x,d])):∃ v,aH K H a [.str x,v]/\Den K H v d:=by
 obtain ⟨b,vs,e,h1,h2⟩:=Xd h;have:=V.ref.inj e;subst this;obtain ⟨u1,r1,rfl,h5,h6⟩:=YH h2;obtain ⟨u2,r2,rfl,h7,h8⟩:=YH h6;have:=XV h8;subst this;have:=XF h5;subst this;exact ⟨u2,h1,h7⟩
theorem rZ {K:Ι} {H:Hp} {a:Addr} {x:Str} {d:Ζ} {i:Int} (h:Den K H (.ref a) (.tuple [.str x,d,.int i])):∃ v,aH K H a [.str x,v,.int i]/\Den K H v d:=by
 obtain ⟨b,vs,e,h1,h2⟩:=Xd h;have:=V.ref.inj e;subst this;obtain ⟨u1,r1,rfl,h5,h6⟩:=YH h2;obtain ⟨u2,r2,rfl,h7,h8⟩:=YH h6;obtain ⟨u3,r3,rfl,h9,h10⟩:=YH h8;have:=XV h10;subst this;have:=XF h5;subst this;have:=WS h9;subst this;exact ⟨u2,h1,h7⟩
theorem Uf {K:Ι} {H:Hp} {v:V} {sh:Sh} (h:Den K H v (kd sh)):∃ b,v = .ref b/\Den K H (.ref b) (kd sh):=by
 obtain ⟨ds,hd⟩:=Qh sh;have h':=h;rw [hd] at h'
 obtain ⟨b,_,rfl,_,_⟩:=Xd h';exact ⟨b,rfl,h⟩
theorem VN {q:Sh} {prs:aU} {sh:Sh} (hok:aG prs sh) (h:q∈XL sh):(kd q).depth<=(kd sh).depth:=by
 cases sh with
 | row ps =>
  have:=Q4 (ps:=ps) h;rw [show kd (.row ps) = .tuple [.str "row",.tuple (bJ ps)] by rw [kd]];simp only [υ,δ];omega
 | pick mk ps =>
  rw [aG] at hok
  have:=Q5 (ps:=ps) hok.1 h;rw [show kd (.pick mk ps) = .tuple [.str "pick",.tuple (kdp mk ps)] by rw [kd]];simp only [υ,δ];omega
 | many p =>
  cases Ξ.mp h
  rw [show kd (.many q) = .tuple [.str "many",kd q] by rw [kd]];simp only [υ,δ];omega
 | alike p n =>
  cases Ξ.mp h
  rw [show kd (.alike q n) = .tuple [.str "alike",kd q,.int n] by rw [kd]];simp only [υ,δ];omega
 | _=>cases h
theorem Uw {K:Ι} {H:Hp} {a b:Addr} {prs:aU} {sh q:Sh} (hk:DK K H a (kd sh)) (hok:aG prs sh) (h:q∈XL sh) (hb:Den K H (.ref b) (kd q)):DK K H b (kd q):=⟨hb,X3 q,Ο (VN hok h) hk.dp⟩
theorem Ji {b:Addr} {p:Sh} {P:Addr->Sh->Prop} (h:p∈[p]->P b p):∀ (i:Nat) b' q,([b]:List Addr)[i]?=some b'->([p]:List Sh)[i]?=some q->P b' q
 | 0,_,_,h1,h2=>by
  cases Γ h1
  cases Γ h2
  exact h (.head _)
 | i+1,_,_,h1,_=>by simp at h1
def sy:Sh->Bool
 | .w _ _=>false
 | .t _=>false
 | .use _=>false
 | _=>true
inductive zX (K:Ι) (vs:List V) (H:Hp) (Q:VK) (E_:XK):Prop
 | mk (prs:aU) (a:Addr) (sh:Sh) (h0:vs=[.ref a]) (h1:DK K H a (kd sh)) (h2:aG prs sh) (h3:sy sh=true) (h4:∀ D (bs:List Addr) H',Yj H H'->H D=none->H' D=some (.lst (bs.map V.ref))->bs.length=(XL sh).length->(∀ (i:Nat) b q,bs[i]?=some b->(XL sh)[i]?=some q->DK K H b (kd q))->Q (.ref D) H')
theorem Ybl  (R:g.Raw "parts_of" "parts_of" xH ["shape"]) (aP:g.mg "list"=none) (pF:g.m7 "OF_ONE_PART" ([.str "many",.str "rising",.str "unlike"])):g.Fn (1) "parts_of" ["shape"] (zX g.K):=by
 refine R.fn GC (λvs H Q E h=>by obtain ⟨prs,a,sh,rfl,hk,hok,hki,q⟩:=h;rfl) λf_ cdv A outer s H vs Q E hr h=>?_
 obtain ⟨prs,a,sh,rfl,hk,hok,hki,q⟩:=h;refine ⟨_,(Ye (Yp (i:=1) GC.nd rfl (.inl rfl) (Yr YC (pv 0) Yg)) (Ye (YF (Yq YK (pv 1) YM (Ys _)) (Yi (Yn (U6 aP VY (Ya (Yr YC (pv 0) Yg) Yd)))) Yw) (Ye (YF (Yq YK (pv 1) YM (Ys _)) (Yi (Yn (Xt (src:=[none,none]) (N':=(["mark","part"]:List Str)) (g:=Vf g.K 2 (XB (Yy 0) (XB (Yy 1) Vv))) (.own (.own .nil)) rfl (UU (Yr YC (pv 0) Yg)) (λcl C s₀ H₀ fp pn=>(VR (n:=2) rfl (Xz (Yu (i:=0) (show ax (["mark","part"]:List Str) by decide +kernel) rfl (.inl rfl) (.inr rfl)) (Xz (Yu (i:=1) (show ax (["mark","part"]:List Str) by decide +kernel) rfl (.inl rfl) (.inr rfl)) Vi)))) (λcl C s₀ H₀ fp pn=>Y0) (λcl C s₀ H₀ fp pn=>(pv 1)) (by intro x hx;simp at hx)))) Yw) (Ye (YF (Vs (Yq YK (pv 1) YM (Ys _)) (Vh (Yq RB (pv 1) (CJ pF (by rfl) (by rfl) (by decide)) rfl))).pt (Yi (Yn (YR (Ya (Yr YC (pv 0) Yg) Yd)))) Yw) (Yi Vu))))),?_⟩;walk_at "rd"
 cases sh with
 | row ps =>
  have hd:=hk.den;rw [kd] at hd
  obtain ⟨v,hT,hv⟩:=Wj hd;obtain ⟨b,vs,rfl,hb,hvs⟩:=Xd hv;obtain ⟨bs,rfl,hl,hbs⟩:=Jh hvs;exact ⟨_,hT,_,Yo (j:=0) rfl,YA _ _,We rfl ⟨_,hT,_,Yo (j:=1) rfl,b,rfl,_,.inr hb,λl hl'=>q l bs _ (.aj hl' _) hl' Yc hl λi b' q' h1 h2=>Uw hk hok (Τ h2) (hbs i b' q' h1 h2)⟩⟩
 | pick mk ps =>
  have hd:=hk.den;have hok':=hok;rw [aG] at hok'
  rw [kd] at hd
  obtain ⟨v,hT,hv⟩:=Wj hd;obtain ⟨b,vs,rfl,hb,hvs⟩:=Xd hv;obtain ⟨ts,bs,rfl,hl1,hl2,hts,hbs⟩:=VM hok'.1 hvs;refine ⟨_,hT,_,Yo (j:=0) rfl,YA _ _,Y6 (by decide +kernel) ⟨YA _ _,We rfl ?_⟩⟩;have hlz:((mk.zip bs).map λp=>(V.str (S p.1),V.ref p.2)).length=bs.length:=by rw [Β,List.length_zip];omega
  refine Qi (K:=g.K) (b:=b) (xs:=ts.map V.ref) ((mk.zip bs).map λp=>(V.str (S p.1),V.ref p.2)) (bs.map V.ref) (λR r=>by walk_at "rd";exact ⟨_,hT,_,Yo (j:=1) rfl,r⟩) hb ?_ (by rw [hlz,Β];omega) (by rw [Β,Β];omega) (by rw [Β];omega) ?_ ?_
  ·intro i x p hx hp
   rw [Λ] at hx hp
   obtain ⟨T,hT',rfl⟩:=ε.mp hx;obtain ⟨⟨m,b'⟩,hz,rfl⟩:=ε.mp hp;rw [et] at hz
   exact ⟨T,rfl,hts i T m b' hT' hz.1 hz.2⟩
  ·intro i p y H' hp hy sm R r
   rw [Λ] at hp hy
   obtain ⟨⟨m,b'⟩,hz,rfl⟩:=ε.mp hp;rw [et] at hz
   rw [hz.2] at hy
   have:V.ref b'=y:=Γ hy;subst this;walk_at "rd";exact r H' (.refl _)
  ·intro D H' hD sm hd'
   exact q D bs H' sm hD hd' hl2 λi b' q' h1 h2=>Uw hk hok (Τ h2) (hbs i b' q' h1 h2)
 | many p =>
  have hd:=hk.den;rw [kd] at hd
  obtain ⟨v,hT,hv⟩:=Wj hd;obtain ⟨b,rfl,hv⟩:=Uf hv;refine ⟨_,hT,_,Yo (j:=0) rfl,YA _ _,Y6 (by decide +kernel) ⟨YA _ _,Y6 (by decide +kernel) ⟨YA _ _,Y6 (by decide +kernel) λc hc=>⟨_,.inr hc,rfl,rfl,?_⟩⟩⟩⟩;rw [if_pos (show inV (.str "many") _=true by decide +kernel)];exact ⟨_,hT,_,Yo (j:=1) rfl,few (by decide),λl hl'=>q l [b] _ (.aj hl' _) hl' Yc rfl (Ji λhm=>Uw hk hok hm hv)⟩
 | alike p n =>
  have hd:=hk.den;rw [kd] at hd
  obtain ⟨v,hT,hv⟩:=rZ hd;obtain ⟨b,rfl,hv⟩:=Uf hv;exact ⟨_,hT,_,Yo (j:=0) rfl,YA _ _,Y6 (by decide +kernel) ⟨YA _ _,Y6 (by decide +kernel) ⟨YA _ _,We rfl ⟨_,hT,_,Yo (j:=1) rfl,few (by decide),λl hl'=>q l [b] _ (.aj hl' _) hl' Yc rfl (Ji λhm=>Uw hk hok hm hv)⟩⟩⟩⟩
 | _=>cases hki
def t0 (U:Addr->Prop):Sw:=⟨λ_=>0,λ_ _=>0,U⟩
structure BI (C:Cs) (w:Wo) (U O:Addr->Prop) (H:Hp):Prop where
 at_:∀ p sh,w.reg p=some sh->¬ O p->Wh C w (t0 U) H p sh
 op:∀ p,O p->∃ x dx c,w.reg p=some (.use x)/\Un w (t0 U) p/\(∀ s,s<=45->sm (cnt w.bk (.use x) s))/\H p=some (.ins C.use dx (mf c (fU .non)))/\w.D c=some (p,0)/\H c=some (.lst [])
 al:∀ b,U b->H b≠none
 ow:∀ b x,w.D b=some x->U b
 oo:∀ b q i,w.D b=some (q,i)->U q
 inj:∀ b b' x,w.D b=some x->w.D b'=some x->b=b'
structure WG (w w':Wo) (U U':Addr->Prop) (H:Hp):Prop where
 bk:w'.bk=w.bk
 M:w'.M=w.M
 reg:∀ p sh,w.reg p=some sh->w'.reg p=some sh
 D:∀ b,U b->w'.D b=w.D b
 u1:∀ b,U b->U' b
 u2:∀ b,U' b->U b\/H b=none
theorem WG.refl (w:Wo) (U:Addr->Prop) (H:Hp):WG w w U U H:=⟨rfl,rfl,λ_ _ h=>h,λ_ _=>rfl,λ_ h=>h,λ_ h => .inl h⟩
theorem WG.trans {w w1 w2:Wo} {U U1 U2:Addr->Prop} {H H1:Hp} (a:WG w w1 U U1 H) (b:WG w1 w2 U1 U2 H1) (h:∀ x,H x≠none->H1 x≠none):WG w w2 U U2 H :=
 ⟨b.bk.trans a.bk,b.M.trans a.M,λp sh e=>b.reg p sh (a.reg p sh e),λx e=>(b.D x (a.u1 x e)).trans (a.D x e),λx e=>b.u1 x (a.u1 x e),λx e=>by
  rcases b.u2 x e with e | e
  ·exact a.u2 x e
  ·cases c:H x with
   | none=>exact .inr rfl
   | some o=>exact absurd e (h x (by rw [c];intro z;cases z))⟩
theorem WE.grow {w w':Wo} {U U':Addr->Prop} {H:Hp} (G:WG w w' U U' H) {as:List Addr} {ps:List Sh} (h:WE w.reg as ps):WE w'.reg as ps:=⟨h.1,λi a p h1 h2=>G.reg _ _ (h.2 i a p h1 h2)⟩
theorem WE.toM {w:Wo} {U:Addr->Prop} {p:Addr} {as:List Addr} {ps:List Sh} (h:WE w.reg as ps):fG w (t0 U) p as ps:=⟨h.1,h.2,λ_ _ _=>Κ _⟩
theorem WE.toC {w:Wo} {U:Addr->Prop} {p:Addr} {as:List Addr} {ps:List Sh} (h:WE w.reg as ps):fZ w (t0 U) p as ps:=⟨h.1,h.2,λ_ _=>Κ _⟩
theorem fG.grow {w w':Wo} {U U':Addr->Prop} {H:Hp} {p:Addr} (G:WG w w' U U' H) {as:List Addr} {ps:List Sh} (h:fG w (t0 U) p as ps):fG w' (t0 U') p as ps:=⟨h.1,λi a p h1 h2=>G.reg _ _ (h.2 i a p h1 h2),λ_ _ _=>Κ _⟩
theorem fZ.grow {w w':Wo} {U U':Addr->Prop} {H:Hp} {p:Addr} (G:WG w w' U U' H) {as:List Addr} {ps:List Sh} (h:fZ w (t0 U) p as ps):fZ w' (t0 U') p as ps:=⟨h.1,λi a p h1 h2=>G.reg _ _ (h.2 i a p h1 h2),λ_ _=>Κ _⟩
theorem One.grow {w w':Wo} {U U':Addr->Prop} {H0:Hp} {p:Addr} {sh q:Sh} {F:Addr->List (Str×V)} {fs:List (Str×V)} (G:WG w w' U U' H0) (h:One w (t0 U) p sh q F fs):One w' (t0 U') p sh q F fs:=by
 obtain ⟨a,h1,h2,h3⟩:=h;exact ⟨a,h1,G.reg _ _ h2,h3⟩
theorem Sub.grow {C:Cs} {w w':Wo} {U U':Addr->Prop} {H H' H0:Hp} {p:Addr} (G:WG w w' U U' H0) (ow:∀ b x,w.D b=some x->U b) (hk:∀ b o,U b->H b=some o->H' b=some o):∀ {sh:Sh} {fs:List (Str×V)},Sub C w (t0 U) H p sh fs->Sub C w' (t0 U') H' p sh fs
 | .w lo span,fs,h=>h
 | .t sg,fs,h=>h
 | .many q,fs,h=>One.grow G h
 | .alike q n,fs,h=>⟨One.grow G h.1,h.2⟩
 | .row ps,fs,h=>by
  obtain ⟨P,T,dt,L,as,ws,h1,h2,h3,h4,h5,h6,h7,h8,h9,h10,h11,h12⟩:=h;have un:∀ {b:Addr},Un w (t0 U) b->Un w' (t0 U') b:=λz=>⟨(G.D _ z.2).trans z.1,G.u1 _ z.2⟩
  refine ⟨P,T,dt,L,as,ws,h1,un h2,un h3,un h4,hk _ _ h2.2 h5,h6.grow G,h7,hk _ _ h3.2 h8,hk _ _ h4.2 h9,h10,λi x hx=>?_,by rw [G.bk];exact h12⟩;obtain ⟨k1,k2,k3,k4⟩:=h11 i x hx;exact ⟨(G.D _ (ow _ _ k1)).trans k1,k2,k3,by rw [G.bk];exact hk _ _ (ow _ _ k1) k4⟩
 | .pick mk ps,fs,h=>by
  obtain ⟨M,P,as,h1,h2,h3,h4,h5,h6,h7⟩:=h;have un:∀ {b:Addr},Un w (t0 U) b->Un w' (t0 U') b:=λz=>⟨(G.D _ z.2).trans z.1,G.u1 _ z.2⟩
  exact ⟨M,P,as,h1,un h2,un h3,hk _ _ h2.2 h4,hk _ _ h3.2 h5,h6.grow G,h7⟩
 | .use x,fs,h=>by
  show One w' (t0 U') p (.use x) (w'.bk x) _ fs
  rw [G.bk];exact One.grow G h
theorem Wh.grow {C:Cs} {w w':Wo} {U U':Addr->Prop} {H H' H0:Hp} {p:Addr} {sh:Sh} (G:WG w w' U U' H0) (ow:∀ b x,w.D b=some x->U b) (hk:∀ b o,U b->H b=some o->H' b=some o) (h:Wh C w (t0 U) H p sh):Wh C w' (t0 U') H' p sh:=by
 obtain ⟨dx,c,fs,h1,h2,h3,h4,h5,h6,h7,h8⟩:=h;exact ⟨dx,c,fs,⟨(G.D _ h1.2).trans h1.1,G.u1 _ h1.2⟩,by rw [G.M];exact h2,by rw [G.bk];exact h3,h4,hk _ _ h1.2 h5,(G.D _ (ow _ _ h6)).trans h6,by rw [G.bk];exact hk _ _ (ow _ _ h6) h7,h8.grow G ow hk⟩
theorem BI.keep {C:Cs} {w:Wo} {U O:Addr->Prop} {H H':Hp} (B:BI C w U O H) (hk:∀ b o,U b->H b=some o->H' b=some o):BI C w U O H':=by
 refine ⟨λp sh hr ho=>(B.at_ p sh hr ho).grow (.refl w U H) B.ow hk,λp hp=>?_,λb hb=>?_,B.ow,B.oo,B.inj⟩
 ·obtain ⟨x,dx,c,h1,h2,h3,h4,h5,h6⟩:=B.op p hp
  exact ⟨x,dx,c,h1,h2,h3,hk _ _ h2.2 h4,h5,hk _ _ (B.ow _ _ h5) h6⟩
 ·cases e:H b with
  | none=>exact absurd e (B.al b hb)
  | some o=>rw [hk b o hb e];intro z;cases z
def Wo.add (w:Wo) (p:Addr) (sh:Sh) (os:List Addr):Wo:={ w with reg:=λq=>if q=p then some sh else w.reg q,D:=λb=>if b∈os then some (p,os.idxOf b) else w.D b }
def Ua (U:Addr->Prop) (os ss:List Addr):Addr->Prop:=λb=>U b\/b∈os\/b∈ss
theorem BI.N6 {C:Cs} {w:Wo} {U O:Addr->Prop} {H:Hp} (B:BI C w U O H) {p:Addr} {sh:Sh} (h:w.reg p=some sh):U p:=by
 by_cases o:O p
 ·obtain ⟨x,dx,c,h1,h2,_⟩:=B.op p o
  exact h2.2
 ·obtain ⟨dx,c,fs,h1,_⟩:=B.at_ p sh h o
  exact h1.2
theorem Yf8 {os:List Addr} {a b:Addr} (ha:a∈os) (hb:b∈os) (h:os.idxOf a=os.idxOf b):a=b:=by
 have h1:=List.getElem_idxOf (dC ha);have h2:=List.getElem_idxOf (dC hb);have:os[os.idxOf a]'(dC ha)=os[os.idxOf b]'(dC hb):=by congr 1
 rw [h1,h2] at this
 exact this
theorem Jj:∀ {os:List Addr} {i:Nat} {a:Addr},os.Nodup->os[i]?=some a->os.idxOf a=i
 | b::os,0,a,hn,h=>by
  have:b=a:=Γ h;subst this;exact List.idxOf_cons_self
 | b::os,i+1,a,hn,h=>by
  have h':os[i]?=some a:=by simpa using h
  have hne:b≠a:=λz=>by
   rw [cS] at hn
   exact hn.1 (by rw [z];exact Τ h')
  have ih:=Jj (cS.mp hn).2 h';rw [List.idxOf_cons,ih];have e:(b==a)=false:=by simpa using hne
  rw [e];rfl
structure New (H H':Hp) (U:Addr->Prop) (p:Addr) (os ss:List Addr):Prop where
 nu:∀ b,b∈os\/b∈ss->¬ U b
 inn:p∈ss
 nd:os.Nodup
 ap:∀ b∈os,b∉ss
 keep:∀ b o,U b->H b=some o->H' b=some o
 there:∀ b,b∈os\/b∈ss->H' b≠none
theorem New.wg {C:Cs} {w:Wo} {U O:Addr->Prop} {H H' H0:Hp} {p:Addr} {os ss:List Addr} (N:New H H' U p os ss) (B:BI C w U O H) (sh:Sh) (h0:∀ b,b∈os\/b∈ss->H0 b=none):WG w (w.add p sh os) U (Ua U os ss) H0:=by
 refine ⟨rfl,rfl,λq s e=>?_,λb hb=>?_,λb h => .inl h,λb h=>?_⟩
 ·show (if q=p then some sh else w.reg q)=some s
  rw [if_neg λz=>?_]
  ·exact e
  ·subst z
   exact N.nu _ (.inr N.inn) (B.N6 e)
 ·show (if b∈os then _ else w.D b)=w.D b
  rw [if_neg λz=>N.nu _ (.inl z) hb]
 ·rcases h with h | h
  ·exact .inl h
  ·exact .inr (h0 b h)
theorem New.un {C:Cs} {w:Wo} {U O:Addr->Prop} {H H':Hp} {p:Addr} {os ss:List Addr} (N:New H H' U p os ss) (B:BI C w U O H) (sh:Sh) {b:Addr} (hb:b∈ss):Un (w.add p sh os) (t0 (Ua U os ss)) b:=by
 refine ⟨?_,.inr (.inr hb)⟩
 show (if b∈os then _ else w.D b)=none
 rw [if_neg λz=>N.ap b z hb]
 cases e:w.D b with
 | none=>rfl
 | some x=>exact absurd (B.ow b x e) (N.nu b (.inr hb))
theorem New.dat {w:Wo} {U:Addr->Prop} {H H':Hp} {p:Addr} {os ss:List Addr} (N:New H H' U p os ss) (sh:Sh) {i:Nat} {b:Addr} (hb:os[i]?=some b):(w.add p sh os).D b=some (p,i):=by
 show (if b∈os then some (p,os.idxOf b) else w.D b)=_
 rw [if_pos (Τ hb),Jj N.nd hb]
theorem New.bi {C:Cs} {w:Wo} {U O O':Addr->Prop} {H H':Hp} {p:Addr} {os ss:List Addr} {sh:Sh} (N:New H H' U p os ss) (B:BI C w U O H) (h1:∀ q,q≠p->(O' q↔O q)) (hm:¬ O' p->Wh C (w.add p sh os) (t0 (Ua U os ss)) H' p sh)
  (ho:O' p->∃ x dx c,sh = .use x/\Un (w.add p sh os) (t0 (Ua U os ss)) p/\(∀ s,s<=45->sm (cnt w.bk (.use x) s))/\H' p=some (.ins C.use dx (mf c (fU .non)))/\(w.add p sh os).D c=some (p,0)/\H' c=some (.lst [])):BI C (w.add p sh os) (Ua U os ss) O' H':=by
 have G:=N.wg (H0:=λ_=>none) B sh λ_ _=>rfl
 have hpr:∀ {q:Addr} {s:Sh},(w.add p sh os).reg q=some s->q≠p->w.reg q=some s:=λ{q s} e n=>by
  have:(if q=p then some sh else w.reg q)=some s:=e
  rwa [if_neg n] at this
 refine ⟨λq s hq ho'=>?_,λq hq=>?_,λb hb=>?_,λb x e=>?_,λb q i e=>?_,λb b' x e e'=>?_⟩
 ·by_cases c:q=p
  ·subst c
   have:(if q=q then some sh else w.reg q)=some s:=hq;rw [if_pos rfl] at this
   have:=Γ this;subst this;exact hm ho'
  ·exact (B.at_ q s (hpr hq c) λz=>ho' ((h1 q c).mpr z)).grow G B.ow N.keep
 ·by_cases c:q=p
  ·subst c
   obtain ⟨x,dx,c,e1,e2,e3,e4,e5,e6⟩:=ho hq;subst e1;exact ⟨x,dx,c,if_pos rfl,e2,e3,e4,e5,e6⟩
  ·obtain ⟨x,dx,c',e1,e2,e3,e4,e5,e6⟩:=B.op q ((h1 q c).mp hq)
   exact ⟨x,dx,c',G.reg _ _ e1,⟨(G.D _ e2.2).trans e2.1,G.u1 _ e2.2⟩,e3,N.keep _ _ e2.2 e4,(G.D _ (B.ow _ _ e5)).trans e5,N.keep _ _ (B.ow _ _ e5) e6⟩
 ·rcases hb with hb | hb
  ·cases e:H b with
   | none=>exact absurd e (B.al b hb)
   | some o=>rw [N.keep b o hb e];intro z;cases z
  ·exact N.there b hb
 ·have e:(if b∈os then some (p,os.idxOf b) else w.D b)=some x:=e
  by_cases c:b∈os
  ·exact .inr (.inl c)
  ·rw [if_neg c] at e
   exact .inl (B.ow b x e)
 ·have e:(if b∈os then some (p,os.idxOf b) else w.D b)=some (q,i):=e
  by_cases c:b∈os
  ·rw [if_pos c] at e
   injection e with e
   injection e with e _
   rw [<- e];exact .inr (.inr N.inn)
  ·rw [if_neg c] at e
   exact .inl (B.oo b q i e)
 ·have e:(if b∈os then some (p,os.idxOf b) else w.D b)=some x:=e
  have e':(if b'∈os then some (p,os.idxOf b') else w.D b')=some x:=e';have nop:∀ {y:Addr} {i:Nat},w.D y=some (p,i)->False:=λz=>N.nu _ (.inr N.inn) (B.oo _ _ _ z)
  by_cases c:b∈os
  ·rw [if_pos c] at e
   by_cases c':b'∈os
   ·rw [if_pos c'] at e'
    rw [<- e'] at e
    injection e with e
    injection e with _ e
    exact Yf8 c c' e
   ·rw [if_neg c',<- e] at e'
    exact (nop e').elim
  ·rw [if_neg c] at e
   by_cases c':b'∈os
   ·rw [if_pos c'] at e'
    rw [<- e'] at e
    exact (nop e).elim
   ·rw [if_neg c'] at e'
    exact B.inj b b' x e e'
theorem BI.wi {C:Cs} {w:Wo} {U O:Addr->Prop} {H:Hp} (B:BI C w U O H) (h:∀ p,¬ O p):WI C w (t0 U) H:=⟨λp sh e=>B.at_ p sh e (h p),B.al,B.ow,B.inj⟩
theorem Xs {fs:List (Str×V)} (h:fs.length<=3):fs.length<1000:=by omega
def isC (C:Cs) (c:Addr):Prop:=c=C.w\/c=C.t\/c=C.row\/c=C.pick\/c=C.many\/c=C.alike\/c=C.use
inductive jt (C:Cs) (vs:List V) (H:Hp) (Q:VK) (E_:XK):Prop
 | mk (p dx cl:Addr) (h0:vs=[.ref p]) (h1:isC C cl) (h2:H p=some (.ins cl dx [])) (h3:∀ c,H c=none->Q .non (upd (upd H c (.lst [])) p (.ins cl dx [("counts",.ref c)])))
theorem Z5m {Z1 Z3 Z2 Z5 Z6 Z4 Z7 Z0:Addr} (R:g.jT "Maker" "__init__" "Maker.__init__" zE ["self"]) (Za:Cls g.K Z1) (Zx:Yf g.K Z1 "counts") (Zy:Yf g.K Z1 "part") (Zk:Yf g.K Z1 "times") (Zc:Cls g.K Z3) (Zq:Yf g.K Z3 "counts") (Zt:Yf g.K Z3 "part") (Zb:Cls g.K Z2) (Zp:Yf g.K Z2 "counts") (Zs:Yf g.K Z2 "marks") (Zm:Yf g.K Z2 "parts") (Zf:Cls g.K Z5) (ZD:Yf g.K Z5 "counts") (ZF:Yf g.K Z5 "parts") (ZC:Yf g.K Z5 "table") (Zd:Cls g.K Z4) (ZA:Yf g.K Z4 "counts") (Zr:Yf g.K Z4 "signs") (Ze:Cls g.K Z7) (Zv:Yf g.K Z7 "counts") (Zn:Yf g.K Z7 "named") (Z8:Cls g.K Z0) (Zg:Yf g.K Z0 "counts") (ZE:Yf g.K Z0 "low") (Zz:Yf g.K Z0 "span"):g.Cf (1) "Maker" "__init__" ["self"] (jt (Cs.mk Z0 Z4 Z5 Z6 Z2 Z3 Z1 Z7)):=by
 refine R.cf Z5k (λvs H Q E h=>by obtain ⟨p,dx,cl,rfl,hC,hp,q⟩:=h;rfl) λf_ cdv A outer s H vs Q E hr h=>?_
 obtain ⟨p,dx,cl,rfl,hC,hp,q⟩:=h;refine ⟨_,(Yi (Y8 (pv 0) (YR Yd) rfl)),?_⟩;walk_at "rd";refine ⟨few (by decide),λc hc=>⟨cl,dx,[],by rw [Yh (Ym hp hc)];exact hp,?_,?_,by decide,q c hc⟩⟩
 ·rcases hC with rfl | rfl | rfl | rfl | rfl | rfl | rfl<;>assumption
 ·rcases hC with rfl | rfl | rfl | rfl | rfl | rfl | rfl<;>assumption
theorem n1 {a b:Str} (h:(a==b)=false):¬ a=b:=λz=>by rw [z] at h;simp at h
theorem UN {f:Str} {v:V} {c:Addr} (h:¬ (("counts":Str)=f)):YT f v [("counts",.ref c)]=mf c [(f,v)]:=by simp only [YT,if_neg h];rfl
theorem uE {f f':Str} {v v':V} {c:Addr} (h:¬ (("counts":Str)=f)) (h2:¬ f'=f):YT f v (mf c [(f',v')])=mf c [(f',v'),(f,v)]:=by
 show YT f v [(("counts":Str),V.ref c),(f',v')]=_
 simp only [YT,if_neg h,if_neg h2];rfl
inductive Jk (C:Cs) (vs:List V) (H:Hp) (Q:VK) (E_:XK):Prop
 | mk (p dx:Addr) (lo:Int) (span:Nat) (h0:vs=[.ref p,.int lo,.int (lo+span)]) (h1:H p=some (.ins C.w dx [])) (h2:∀ c H',H c=none->SameBut p H H'->H' p=some (.ins C.w dx (mf c (fW lo span)))->H' c=some (.lst [])->Q .non H')
theorem Z3D {k:Nat} {Z1 Z3 Z2 Z5 Z6 Z4 Z7 Z0:Addr} (R:g.bB "WholeMaker" Z0 "WholeMaker.__init__" yI ["self","low","high"]) (ZK:g.Cf k "Maker" "__init__" ["self"] (jt (Cs.mk Z0 Z4 Z5 Z6 Z2 Z3 Z1 Z7))) (Z8:Cls g.K Z0) (Zg:Yf g.K Z0 "counts") (ZE:Yf g.K Z0 "low") (Zz:Yf g.K Z0 "span"):g.Ma (k+1) "WholeMaker" Z0 ["self","low","high"] (Jk (Cs.mk Z0 Z4 Z5 Z6 Z2 Z3 Z1 Z7)):=by
 refine R.ma Z3u (λvs H Q E h=>by obtain ⟨p,dx,lo,span,rfl,hp,q⟩:=h;rfl) λf_ cdv A outer s H vs Q E hr h=>?_
 obtain ⟨p,dx,lo,span,rfl,hp,q⟩:=h;refine ⟨_,(Ye (YY (VC ZK hr (Ya (pv 0) Yd))) (Ye (Y8 (pv 0) (pv 1) rfl) (Yi (Y8 (pv 0) (Yl Y2 (pv 2) (pv 1)) rfl)))),?_⟩;walk_at "rd";refine ⟨p,dx,_,rfl,.inl rfl,hp,λc hc=>?_⟩;have hne:p≠c:=Ym hp hc;refine ⟨_,dx,_,Yc,Z8,ZE,Xs (show 1<=3 by decide),_,dx,_,Yc,Z8,Zz,Xs (Ο (Xl _ _ _) (show 2<=3 by decide)),?_⟩;refine q c _ hc (λx o hx h=>?_) ?_ ?_
 ·rw [Yh hx,Yh hx,Yh hx,Yh (Ym h hc)];exact h
 ·rw [Yc,show lo+(span:Int) - lo=span by omega,UN (n1 (by decide +kernel)),uE (n1 (by decide +kernel)) (n1 (by decide +kernel))];rfl
 ·rw [Yh (am hne),Yh (am hne),Yh (am hne),Yc]
inductive Jl (C:Cs) (vs:List V) (H:Hp) (Q:VK) (E_:XK):Prop
 | mk (p dx:Addr) (sg:List Nat) (h0:vs=[.ref p,.str (S sg)]) (h1:H p=some (.ins C.t dx [])) (h2:∀ c H',H c=none->SameBut p H H'->H' p=some (.ins C.t dx (mf c (fT sg)))->H' c=some (.lst [])->Q .non H')
theorem Z3Q {k:Nat} {Z1 Z3 Z2 Z5 Z6 Z4 Z7 Z0:Addr} (R:g.bB "TextMaker" Z4 "TextMaker.__init__" yL ["self","signs"]) (ZK:g.Cf k "Maker" "__init__" ["self"] (jt (Cs.mk Z0 Z4 Z5 Z6 Z2 Z3 Z1 Z7))) (Zd:Cls g.K Z4) (ZA:Yf g.K Z4 "counts") (Zr:Yf g.K Z4 "signs"):g.Ma (k+1) "TextMaker" Z4 ["self","signs"] (Jl (Cs.mk Z0 Z4 Z5 Z6 Z2 Z3 Z1 Z7)):=by
 refine R.ma Z3J (λvs H Q E h=>by obtain ⟨p,dx,sg,rfl,hp,q⟩:=h;rfl) λf_ cdv A outer s H vs Q E hr h=>?_
 obtain ⟨p,dx,sg,rfl,hp,q⟩:=h;refine ⟨_,(Ye (YY (VC ZK hr (Ya (pv 0) Yd))) (Yi (Y8 (pv 0) (pv 1) rfl))),?_⟩;walk_at "rd";refine ⟨p,dx,_,rfl,.inr (.inl rfl),hp,λc hc=>?_⟩;have hne:p≠c:=Ym hp hc;refine ⟨_,dx,_,Yc,Zd,Zr,Xs (show 1<=3 by decide),?_⟩;refine q c _ hc (λx o hx h=>?_) ?_ ?_
 ·rw [Yh hx,Yh hx,Yh (Ym h hc)];exact h
 ·rw [Yc,UN (n1 (by decide +kernel))];rfl
 ·rw [Yh (am hne),Yh (am hne),Yc]
inductive Jm (C:Cs) (vs:List V) (H:Hp) (Q:VK) (E_:XK):Prop
 | mk (p dx a:Addr) (h0:vs=[.ref p,.ref a]) (h1:H p=some (.ins C.many dx [])) (h2:∀ c H',H c=none->SameBut p H H'->H' p=some (.ins C.many dx (mf c (fM a)))->H' c=some (.lst [])->Q .non H')
theorem Z3R {k:Nat} {Z1 Z3 Z2 Z5 Z6 Z4 Z7 Z0:Addr} (R:g.bB "ManyMaker" Z3 "ManyMaker.__init__" zc ["self","part"]) (ZK:g.Cf k "Maker" "__init__" ["self"] (jt (Cs.mk Z0 Z4 Z5 Z6 Z2 Z3 Z1 Z7))) (Zc:Cls g.K Z3) (Zq:Yf g.K Z3 "counts") (Zt:Yf g.K Z3 "part"):g.Ma (k+1) "ManyMaker" Z3 ["self","part"] (Jm (Cs.mk Z0 Z4 Z5 Z6 Z2 Z3 Z1 Z7)):=by
 refine R.ma Z3N (λvs H Q E h=>by obtain ⟨p,dx,a,rfl,hp,q⟩:=h;rfl) λf_ cdv A outer s H vs Q E hr h=>?_
 obtain ⟨p,dx,a,rfl,hp,q⟩:=h;refine ⟨_,(Ye (YY (VC ZK hr (Ya (pv 0) Yd))) (Yi (Y8 (pv 0) (pv 1) rfl))),?_⟩;walk_at "rd";refine ⟨p,dx,_,rfl,.inr (.inr (.inr (.inr (.inl rfl)))),hp,λc hc=>?_⟩;have hne:p≠c:=Ym hp hc;refine ⟨_,dx,_,Yc,Zc,Zt,Xs (show 1<=3 by decide),?_⟩;refine q c _ hc (λx o hx h=>?_) ?_ ?_
 ·rw [Yh hx,Yh hx,Yh (Ym h hc)];exact h
 ·rw [Yc,UN (n1 (by decide +kernel))];rfl
 ·rw [Yh (am hne),Yh (am hne),Yc]
inductive Jo (C:Cs) (vs:List V) (H:Hp) (Q:VK) (E_:XK):Prop
 | mk (p dx a:Addr) (n:Nat) (h0:vs=[.ref p,.ref a,.int n]) (h1:H p=some (.ins C.alike dx [])) (h2:∀ c H',H c=none->SameBut p H H'->H' p=some (.ins C.alike dx (mf c (fA n a)))->H' c=some (.lst [])->Q .non H')
theorem Z3E {k:Nat} {Z1 Z3 Z2 Z5 Z6 Z4 Z7 Z0:Addr} (R:g.bB "AlikeMaker" Z1 "AlikeMaker.__init__" zp ["self","part","times"]) (ZK:g.Cf k "Maker" "__init__" ["self"] (jt (Cs.mk Z0 Z4 Z5 Z6 Z2 Z3 Z1 Z7))) (Za:Cls g.K Z1) (Zx:Yf g.K Z1 "counts") (Zy:Yf g.K Z1 "part") (Zk:Yf g.K Z1 "times"):g.Ma (k+1) "AlikeMaker" Z1 ["self","part","times"] (Jo (Cs.mk Z0 Z4 Z5 Z6 Z2 Z3 Z1 Z7)):=by
 refine R.ma Z3y (λvs H Q E h=>by obtain ⟨p,dx,a,n,rfl,hp,q⟩:=h;rfl) λf_ cdv A outer s H vs Q E hr h=>?_
 obtain ⟨p,dx,a,n,rfl,hp,q⟩:=h;refine ⟨_,(Ye (YY (VC ZK hr (Ya (pv 0) Yd))) (Ye (Y8 (pv 0) (pv 1) rfl) (Yi (Y8 (pv 0) (pv 2) rfl)))),?_⟩;walk_at "rd";refine ⟨p,dx,_,rfl,.inr (.inr (.inr (.inr (.inr (.inl rfl))))),hp,λc hc=>?_⟩;have hne:p≠c:=Ym hp hc;refine ⟨_,dx,_,Yc,Za,Zy,Xs (show 1<=3 by decide),_,dx,_,Yc,Za,Zk,Xs (Ο (Xl _ _ _) (show 2<=3 by decide)),?_⟩;refine q c _ hc (λx o hx h=>?_) ?_ ?_
 ·rw [Yh hx,Yh hx,Yh hx,Yh (Ym h hc)];exact h
 ·rw [Yc,UN (n1 (by decide +kernel)),uE (n1 (by decide +kernel)) (n1 (by decide +kernel))];rfl
 ·rw [Yh (am hne),Yh (am hne),Yh (am hne),Yc]
inductive Jp (C:Cs) (vs:List V) (H:Hp) (Q:VK) (E_:XK):Prop
 | mk (p dx M P:Addr) (h0:vs=[.ref p,.ref M,.ref P]) (h1:H p=some (.ins C.pick dx [])) (h2:∀ c H',H c=none->SameBut p H H'->H' p=some (.ins C.pick dx (mf c (fP M P)))->H' c=some (.lst [])->Q .non H')
theorem Z3S {k:Nat} {Z1 Z3 Z2 Z5 Z6 Z4 Z7 Z0:Addr} (R:g.bB "PickMaker" Z2 "PickMaker.__init__" yW ["self","marks","parts"]) (ZK:g.Cf k "Maker" "__init__" ["self"] (jt (Cs.mk Z0 Z4 Z5 Z6 Z2 Z3 Z1 Z7))) (Zb:Cls g.K Z2) (Zp:Yf g.K Z2 "counts") (Zs:Yf g.K Z2 "marks") (Zm:Yf g.K Z2 "parts"):g.Ma (k+1) "PickMaker" Z2 ["self","marks","parts"] (Jp (Cs.mk Z0 Z4 Z5 Z6 Z2 Z3 Z1 Z7)):=by
 refine R.ma Z3L (λvs H Q E h=>by obtain ⟨p,dx,M,P,rfl,hp,q⟩:=h;rfl) λf_ cdv A outer s H vs Q E hr h=>?_
 obtain ⟨p,dx,M,P,rfl,hp,q⟩:=h;refine ⟨_,(Ye (YY (VC ZK hr (Ya (pv 0) Yd))) (Ye (Y8 (pv 0) (pv 1) rfl) (Yi (Y8 (pv 0) (pv 2) rfl)))),?_⟩;walk_at "rd";refine ⟨p,dx,_,rfl,.inr (.inr (.inr (.inl rfl))),hp,λc hc=>?_⟩;have hne:p≠c:=Ym hp hc;refine ⟨_,dx,_,Yc,Zb,Zs,Xs (show 1<=3 by decide),_,dx,_,Yc,Zb,Zm,Xs (Ο (Xl _ _ _) (show 2<=3 by decide)),?_⟩;refine q c _ hc (λx o hx h=>?_) ?_ ?_
 ·rw [Yh hx,Yh hx,Yh hx,Yh (Ym h hc)];exact h
 ·rw [Yc,UN (n1 (by decide +kernel)),uE (n1 (by decide +kernel)) (n1 (by decide +kernel))];rfl
 ·rw [Yh (am hne),Yh (am hne),Yh (am hne),Yc]
inductive Jq (C:Cs) (vs:List V) (H:Hp) (Q:VK) (E_:XK):Prop
 | mk (p dx:Addr) (h0:vs=[.ref p]) (h1:H p=some (.ins C.use dx [])) (h2:∀ c H',H c=none->SameBut p H H'->H' p=some (.ins C.use dx (mf c (fU .non)))->H' c=some (.lst [])->Q .non H')
theorem Z4m {k:Nat} {Z1 Z3 Z2 Z5 Z6 Z4 Z7 Z0:Addr} (R:g.bB "UseMaker" Z7 "UseMaker.__init__" zx ["self"]) (ZK:g.Cf k "Maker" "__init__" ["self"] (jt (Cs.mk Z0 Z4 Z5 Z6 Z2 Z3 Z1 Z7))) (Ze:Cls g.K Z7) (Zv:Yf g.K Z7 "counts") (Zn:Yf g.K Z7 "named"):g.Ma (k+1) "UseMaker" Z7 ["self"] (Jq (Cs.mk Z0 Z4 Z5 Z6 Z2 Z3 Z1 Z7)):=by
 refine R.ma Z4e (λvs H Q E h=>by obtain ⟨p,dx,rfl,hp,q⟩:=h;rfl) λf_ cdv A outer s H vs Q E hr h=>?_
 obtain ⟨p,dx,rfl,hp,q⟩:=h;refine ⟨_,(Ye (YY (VC ZK hr (Ya (pv 0) Yd))) (Yi (Y8 (pv 0) Dv rfl))),?_⟩;walk_at "rd";refine ⟨p,dx,_,rfl,.inr (.inr (.inr (.inr (.inr (.inr rfl))))),hp,λc hc=>?_⟩;have hne:p≠c:=Ym hp hc;refine ⟨_,dx,_,Yc,Ze,Zn,Xs (show 1<=3 by decide),?_⟩;refine q c _ hc (λx o hx h=>?_) ?_ ?_
 ·rw [Yh hx,Yh hx,Yh (Ym h hc)];exact h
 ·rw [Yc,UN (n1 (by decide +kernel))];rfl
 ·rw [Yh (am hne),Yh (am hne),Yc]
inductive Jr (C:Cs) (vs:List V) (H:Hp) (Q:VK) (E_:XK):Prop
 | mk (T dx P:Addr) (as:List Addr) (h0:vs=[.ref T,.ref P]) (h1:H T=some (.ins C.tab dx [])) (h2:H P=some (.lst (as.map V.ref))) (h3:as.length<=100) (h4:∀ L (ws:List Addr) H',H L=none->(∀ x∈ws,H x=none)->ws.Nodup->ws.length=as.length+1->SameBut T H H'->H' T=some (.ins C.tab dx (Wr P L))->H' L=some (.lst (ws.map V.ref))->(∀ x∈ws,H' x=some (.lst []))->Q .non H')
theorem Z4n {Z1 Z3 Z2 Z5 Z6 Z4 Z7 Z0:Addr} (R:g.bB "RowTable" Z6 "RowTable.__init__" yO ["self","parts"]) (au:g.mg "len"=none) (Zj:g.mg "range"=none) (Zi:Cls g.K Z6) (Zo:Yf g.K Z6 "parts") (Zh:Yf g.K Z6 "ways"):g.Ma (1) "RowTable" Z6 ["self","parts"] (Jr (Cs.mk Z0 Z4 Z5 Z6 Z2 Z3 Z1 Z7)):=by
 refine R.ma Z4b (λvs H Q E h=>by obtain ⟨T,dx,P,as,rfl,hT,hP,hl,q⟩:=h;rfl) λf_ cdv A outer s H vs Q E hr h=>?_
 obtain ⟨T,dx,P,as,rfl,hT,hP,hl,q⟩:=h;refine ⟨_,(Ye (Y8 (pv 0) (pv 1) rfl) (Yi (Y8 (pv 0) (Xt (src:=[none]) (N':=(["place"]:List Str)) (g:=Yy 0) (.own .nil) rfl (Y7 rfl Zj (Ya (Yl YW (YN au YL (Ya (pv 1) Yd)) Yg) Yd)) (λcl C s₀ H₀ fp pn=>(Yu (i:=0) (show ax (["place"]:List Str) by decide +kernel) rfl (.inl rfl) (.inr rfl))) (λcl C s₀ H₀ fp pn=>Y0) (λcl C s₀ H₀ fp pn=>(YR Yd)) (by intro x hx;simp at hx)) rfl))),?_⟩;walk_at "rd";have nTP:T≠P:=Xw hT hP (by simp);refine ⟨_,dx,_,hT,Zi,Zo,by decide,?_⟩;obtain ⟨H1,hH1⟩:∃ H1,H1=upd H T (.ins Z6 dx (YT "parts" (.ref P) [])):=⟨_,rfl⟩;rw [<- hH1];have zY:H1 T=some (.ins Z6 dx (YT "parts" (.ref P) [])):=by rw [hH1,Yc]
 have h1:∀ {b:Addr},b≠T->H1 b=H b:=λn=>by rw [hH1,Yh n]
 refine WN (n:=as.length+1) (λD i zs H'=>∃ ws:List Addr,zs=ws.map V.ref/\ws.length=i/\ws.Nodup/\(∀ x∈ws,H1 x=none/\x≠D/\H' x=some (.lst []))/\H' D=some (.lst zs)/\∀ b o,b≠D->H1 b=some o->H' b=some o) (λR r=>?_) (by omega) ?_ ?_ ?_ ?_
 ·walk_at "rd"
  refine ⟨_,.inl (ao.of ((h1 (am nTP)).trans hP)),?_⟩;rw [Β];exact r
 ·intro D hD
  exact ⟨[],rfl,rfl,.nil,λx hx=>(by cases hx),Yc,λb o hb e=>by rw [Yh hb];exact e⟩
 ·rintro D i zs H' ⟨ws,rfl,h2,_,_,h3,_⟩
  exact ⟨by rw [Β,h2],h3⟩
 ·rintro D i zs H' hD hi ⟨ws,rfl,hwl,hnd,hws,hd,fr⟩ R r
  walk_at "rd";refine ⟨few (by decide),λX gX=>?_⟩;have fQ:X≠D:=am (Ym hd gX);have sX:=Yj.aj gX (.lst []);have gX1:H1 X=none:=by
   cases e:H1 X with
   | none=>rfl
   | some o=>rw [fr X o fQ e] at gX;cases gX
  refine r _ _ (sX _ _ hd) ⟨ws++[X],by rw [a8];rfl,by rw [Μ,hwl];rfl,?_,λx hx=>?_,Yc,λb o hb e=>by rw [Yh hb];exact sX _ _ (fr b o hb e)⟩
  ·rw [List.nodup_append]
   refine ⟨hnd,by simp,λx hx y hy=>?_⟩;have:y=X:=by simpa using hy
   subst this;intro z;subst z;rw [(hws x hx).2.2] at gX
   cases gX
  ·rcases bg.mp hx with hx | hx
   ·obtain ⟨k1,k2,k3⟩:=hws x hx
    exact ⟨k1,k2,by rw [Yh k2];exact sX _ _ k3⟩
   ·have:x=X:=by simpa using hx
    subst this;exact ⟨gX1,fQ,by rw [Yh fQ,Yc]⟩
 ·rintro L zs H' hL ⟨ws,rfl,hwl,hnd,hws,hd,fr⟩
  have Js:L≠T:=am (Ym zY hL);have nf:∀ {b:Addr},H1 b=none->H b=none:=λ{b} e=>by
   by_cases c:b=T
   ·subst c;rw [zY] at e;cases e
   ·rw [<- h1 c];exact e
  have Jt:=fr T _ (am Js) zY;refine ⟨_,dx,_,Jt,Zi,Zh,Xs (show 1<=3 by decide),?_⟩;have nw:∀ x∈ws,x≠T:=λx hx=>Xw (hws x hx).2.2 Jt (by simp)
  refine q L ws _ (nf hL) (λx hx=>nf (hws x hx).1) hnd hwl (λb o hb e=>?_) ?_ (by rw [Yh Js];exact hd) (λx hx=>by rw [Yh (nw x hx)];exact (hws x hx).2.2)
  ·rw [Yh hb]
   exact fr b o (Ym ((h1 hb).trans e) hL) ((h1 hb).trans e)
  ·rw [Yc]
   refine congrArg some (congrArg (HO.ins _ _) ?_)
   show YT "ways" (.ref L) [(("parts":Str),V.ref P)]=Wr P L
   simp only [YT,if_neg (n1 (a:=("parts":Str)) (b:=("ways":Str)) (by decide +kernel))];rfl
inductive Ju (C:Cs) (vs:List V) (H:Hp) (Q:VK) (E_:XK):Prop
 | mk (p dx P:Addr) (as:List Addr) (h0:vs=[.ref p,.ref P]) (h1:H p=some (.ins C.row dx [])) (h2:H P=some (.lst (as.map V.ref))) (h3:as.length<=100) (h4:∀ c T dt L (ws:List Addr) H',H c=none->H T=none->H L=none->(∀ x∈ws,H x=none)->(c::ws).Nodup->ws.length=as.length+1->SameBut p H H'->H' p=some (.ins C.row dx (mf c (fR P T)))->H' c=some (.lst [])->H' T=some (.ins C.tab dt (Wr P L))->H' L=some (.lst (ws.map V.ref))->(∀ x∈ws,H' x=some (.lst []))->Q .non H')
theorem Z4o {k:Nat} {Z1 Z3 Z2 Z5 Z6 Z4 Z7 Z0:Addr} (R:g.bB "RowMaker" Z5 "RowMaker.__init__" yS ["self","parts"]) {cR:Nat} (Z4R:g.Ma cR "RowTable" Z6 ["self","parts"] (Jr (Cs.mk Z0 Z4 Z5 Z6 Z2 Z3 Z1 Z7))) (n8:cR+1<=k) (ZK:g.Cf k "Maker" "__init__" ["self"] (jt (Cs.mk Z0 Z4 Z5 Z6 Z2 Z3 Z1 Z7))) (Zf:Cls g.K Z5) (ZD:Yf g.K Z5 "counts") (ZF:Yf g.K Z5 "parts") (ZC:Yf g.K Z5 "table"):g.Ma (k+1) "RowMaker" Z5 ["self","parts"] (Ju (Cs.mk Z0 Z4 Z5 Z6 Z2 Z3 Z1 Z7)):=by
 refine R.ma Z4c (λvs H Q E h=>by obtain ⟨p,dx,P,as,rfl,hp,hP,hl,q⟩:=h;rfl) λf_ cdv A outer s H vs Q E hr h=>?_
 obtain ⟨p,dx,P,as,rfl,hp,hP,hl,q⟩:=h;refine ⟨_,(Ye (YY (VC ZK hr (Ya (pv 0) Yd))) (Ye (Y8 (pv 0) (pv 1) rfl) (Yi (Y8 (pv 0) (WM Z4R hr (Ya (pv 1) Yd)) rfl)))),?_⟩;walk_at "rd";refine ⟨p,dx,_,rfl,.inr (.inr (.inl rfl)),hp,λc hc=>?_⟩;have hne:p≠c:=Ym hp hc;have npP:p≠P:=Xw hp hP (by simp);have nPc:P≠c:=Ym hP hc;refine ⟨_,dx,_,Yc,Zf,ZF,Xs (show 1<=3 by decide),?_⟩;obtain ⟨H1,hH1⟩:∃ H1,H1=upd (upd (upd H c (.lst [])) p (.ins Z5 dx [("counts",.ref c)])) p (.ins Z5 dx (YT "parts" (.ref P) [("counts",.ref c)])):=⟨_,rfl⟩;rw [<- hH1];have zZ:H1 p=some (.ins Z5 dx (mf c [("parts",.ref P)])):=by rw [hH1,Yc,UN (n1 (by decide +kernel))]
 have z6:H1 c=some (.lst []):=by rw [hH1,Yh (am hne),Yh (am hne),Yc]
 have h1:∀ {b:Addr} {o:HO},b≠p->H b=some o->H1 b=some o:=λn e=>by rw [hH1,Yh n,Yh n,Yh (Ym e hc)];exact e
 have nf:∀ {b:Addr},H1 b=none->H b=none:=λ{b} e=>by
  cases z:H b with
  | none=>rfl
  | some o =>
   exfalso;by_cases cc:b=p
   ·subst cc;rw [zZ] at e;cases e
   ·rw [h1 cc z] at e;cases e
 intro T dt gT gdt hnd;have sd:=Yj.aj gdt (.own T);have gT2:upd H1 dt (.own T) T=none:=by rw [Yh (am hnd)];exact gT
 have s12:=sd.trans (.aj gT2 (.ins Z6 dt []));refine ⟨T,dt,P,as,rfl,Yc,s12 _ _ (h1 (am npP) hP),hl,λL ws H3 gL Jv N7 hwl sb h3T Jw Jx=>?_⟩;have Jy:p≠T:=Ym zZ gT;have ncT:c≠T:=Ym z6 gT;have z7:=sb _ _ Jy (s12 _ _ zZ);have h3c:=sb _ _ ncT (s12 _ _ z6);have ncw:c∉ws:=λz=>by have:=Jv c z;rw [s12 _ _ z6] at this;cases this
 have npw:∀ x∈ws,x≠p:=λx hx=>Xw (Jx x hx) z7 (by simp)
 have npL:L≠p:=Xw Jw z7 (by simp);refine ⟨rfl,_,dx,_,z7,Zf,ZC,Xs (show 2<=3 by decide),?_⟩;refine q c T dt L ws _ hc (nf gT) (nf (s12.free gL)) (λx hx=>nf (s12.free (Jv x hx))) (cS.mpr ⟨ncw,N7⟩) hwl (λb o hb e=>?_) ?_ ?_ ?_ ?_ (λx hx=>?_)
 ·rw [Yh hb]
  exact sb _ _ (Ym (h1 hb e) gT) (s12 _ _ (h1 hb e))
 ·rw [Yc,uE (n1 (by decide +kernel)) (n1 (by decide +kernel))];rfl
 ·rw [Yh (am hne)];exact h3c
 ·rw [Yh (am Jy)];exact h3T
 ·rw [Yh npL];exact Jw
 ·rw [Yh (npw x hx)];exact Jx x hx
def lf (b:V) (d:Addr):List (Str×V):=[("book",b),("makers",.ref d)]
theorem nbm:¬ (("book":Str)="makers"):=by decide +kernel
theorem YgR (b:V) (d:Addr):YT "makers" (.ref d) (YT "book" b [])=lf b d:=by
 simp only [YT,if_neg nbm];rfl
theorem X8 (b:V) (d:Addr):(lf b d).lookup ("makers":Str)=some (.ref d):=by
 show b9 ("makers":Str) [(("book":Str),b),(("makers":Str),V.ref d)]=_
 rw [Υ,show (("makers":Str)==("book":Str))=false by decide +kernel,Υ,show (("makers":Str)==("makers":Str))=true by decide +kernel]
theorem Yf9 (b:V) (d:Addr):(lf b d).lookup ("book":Str)=some b:=rfl
theorem Qj (b:V) (d:Addr) {m:Str} (h1:(m==("book":Str))=false) (h2:(m==("makers":Str))=false):(lf b d).lookup m=none:=by
 show b9 m [(("book":Str),b),(("makers":Str),V.ref d)]=_
 rw [Υ,h1,Υ,h2];rfl
inductive Jz (P:ζ) (w:ν) (C:Addr) (vs:List V) (H:Hp) (Q:VK) (E_:XK):Prop
 | mk (p dx:Addr) (b:V) (h0:vs=[.ref p,b]) (h1:H p=some (.ins C dx [])) (h2:∀ d H',H d=none->SameBut p H H'->H' p=some (.ins C dx (lf b d))->H' d=some (bT P w d [])->Q .non H')
theorem Z56 {Z9:Addr} (R:g.bB "Lister" Z9 "Lister.__init__" yD ["self","book"]) (ZH:Cls g.K Z9) (ZJ:Yf g.K Z9 "book") (Zu:Yf g.K Z9 "makers"):g.Ma (1) "Lister" Z9 ["self","book"] (Jz g.P g.w Z9):=by
 refine R.ma Z54 (λvs H Q E h=>by obtain ⟨p,dx,b,rfl,hp,q⟩:=h;rfl) λf_ cdv A outer s H vs Q E hr h=>?_
 obtain ⟨p,dx,b,rfl,hp,q⟩:=h;refine ⟨_,(Ye (Y8 (pv 0) (pv 1) rfl) (Yi (Y8 (pv 0) YeJ rfl))),?_⟩;walk_at "rd";refine ⟨Z9,dx,[],hp,ZH,ZJ,by decide,λd hd=>?_⟩;have hne:p≠d:=Ym Yc hd;rw [Yh (am hne)] at hd
 refine ⟨Z9,dx,_,by rw [Yh hne];exact Yc,ZH,Zu,by simp [YT],q d _ hd (λx o hx h=>?_) ?_ ?_⟩
 ·rw [Yh hx,Yh (Ym h hd),Yh hx];exact h
 ·rw [Yc,YgR]
 ·rw [Yh (am hne),Yc]
  rfl
theorem Y3 {H:Hp} {a b:Addr} {o:HO} (h:upd H a o b=none):H b=none:=by
 by_cases e:b=a
 ·subst e;rw [Yc] at h;cases h
 ·rw [Yh e] at h;exact h
theorem Xy {H H':Hp} {x dx:Addr} {o u:HO} (hx:H x=none) (hdx:H dx=none) (sb:SameBut x (upd (upd H dx o) x u) H'):Yj H H':=λy z h=>by
 have n1:y≠x:=Ym h hx;have n2:y≠dx:=Ym h hdx;exact sb _ _ n1 (by rw [Yh n1,Yh n2];exact h)
def UO (K:Ι) (H:Hp) (B:Addr) (prs:aU):Prop:=∃ vs:List V,H B=some (.lst vs)/\vs.length=prs.length/\∀ (i:Nat) v q,vs[i]?=some v->prs[i]?=some q->∃ T a,v = .ref T/\aH K H T [.str (S q.1),.ref a]/\DK K H a (kd q.2)
inductive JB (K:Ι) (vs:List V) (H:Hp) (Q:VK) (E_:XK):Prop
 | mk (prs:aU) (B:Addr) (x:List Nat) (q:List Nat×Sh) (h0:vs=[.ref B,.str (S x)]) (h1:UO K H B prs) (h2:prs.find? (λq=>decide (q.1=x))=some q) (h3:∀ a,DK K H a (kd q.2)->Q (.ref a) H)
theorem Ybm  (R:g.Raw "shape_of" "shape_of" xJ ["book","name"]):g.Fn (1) "shape_of" ["book","name"] (JB g.K):=by
 refine R.fn GD (λvs H Q E h=>by obtain ⟨prs,B,x,q,rfl,⟨vs,hB,hl,hv⟩,hf,q'⟩:=h;rfl) λf_ cdv A outer s H vs Q E hr h=>?_
 obtain ⟨prs,B,x,q,rfl,⟨vs,hB,hl,hv⟩,hf,q'⟩:=h;refine ⟨_,(Ye (Xp ai rfl (Xc (pv 0)) (Yu (i:=2) GD.nd rfl (.inl rfl)) (Yi (YF (Yq YK (Yr YC (pv 2) Yg) (pv 1) (Ys _)) (Yi (Yn (Yr YC (pv 2) Yg))) Yw))) (Yi Vu)),?_⟩;walk_at "rd";refine Qa (K:=g.K) (xs:=vs) (λc i σ H'=>c=B/\H=H'/\(∃ o,σ=[some (.ref B),some (.str (S x)),o])/\∀ (j:Nat) p,j<i->prs[j]?=some p->p.1≠x) (λR r=>by walk_at "rd";exact r B _ ⟨rfl,rfl,⟨_,rfl⟩,λj p hj=>by omega⟩) (λc i σ H' _ ⟨e,e2,_⟩=>by subst e e2;exact ao.of hB) ?_ ?_
 ·rintro c i v σ H' hx ⟨rfl,rfl,⟨o,rfl⟩,hall⟩
  have hi:=(Η.mp hx).1;have hp:prs[i]?=some (prs[i]'(by omega)):=Ε _;generalize prs[i]'(by omega)=p at hp;obtain ⟨T,a,rfl,hT,hk⟩:=hv i v p hx hp;walk_at "rd";refine ⟨_,hT,_,Yo (j:=0) rfl,YA _ _,?_⟩;by_cases e:p.1=x
  ·refine We (by rw [e]) ⟨_,hT,_,Yo (j:=1) rfl,q' a ?_⟩
   have:q=p:=by
    obtain ⟨j,hj,e1,e2⟩:=c9.mp hf |>.2
    have e1':prs[j]?=some q:=by rw [Ε hj,e1]
    have z8:q.1=x:=of_decide_eq_true (c9.mp hf).1;rcases Nat.lt_trichotomy j i with c | c | c
    ·exact absurd z8 (hall j q c e1')
    ·subst c;rw [e1'] at hp;exact Γ hp
    ·have:=e2 i c
     rw [Ε (by omega)] at hp
     have hp:=Γ hp;rw [hp] at this
     simp [e] at this
   rw [this];exact hk
  ·refine Y6 (λz=>e (U7 (V.str.inj z))) λj p' hj hp'=>?_
   rcases Nat.lt_succ_iff_lt_or_eq.mp hj with c | rfl
   ·exact hall j p' c hp'
   ·rw [hp] at hp'
    have:=Γ hp';subst this;exact e
 ·rintro c σ H' ⟨rfl,rfl,⟨o,rfl⟩,hall⟩
  exfalso;obtain ⟨j,hj,e1,e2⟩:=c9.mp hf |>.2
  have z8:q.1=x:=of_decide_eq_true (c9.mp hf).1;exact hall j q (by omega) (by rw [Ε hj,e1]) z8
def cD (d:Addr) (H H':Hp):Prop:=∀ b o,b≠d->H b=some o->H' b=some o
theorem cD.trans {d:Addr} {H H1 H2:Hp} (a:cD d H H1) (b:cD d H1 H2):cD d H H2:=λc o n e=>b c o n (a c o n e)
theorem Ug {d:Addr} {H H':Hp} (s:Yj H H'):cD d H H':=λc o _ e=>s _ _ e
theorem UO.cB {K:Ι} {H H':Hp} {B:Addr} {prs:aU} (h:UO K H B prs) (t:Wf H H') (hB:∀ o,H B=some o->H' B=some o):UO K H' B prs:=by
 obtain ⟨vs,h1,h2,h3⟩:=h;refine ⟨vs,hB _ h1,h2,λi v q e1 e2=>?_⟩;obtain ⟨T,a,k1,k2,k3⟩:=h3 i v q e1 e2;exact ⟨T,a,k1,t.sq k2,k3.cB t⟩
structure LS (P0:ζ) (w0:ν) (K:Ι) (C:Cs) (CL:Addr) (prs:aU) (w:Wo) (U O:Addr->Prop) (H:Hp) (ls dx d B:Addr) (xs:Dx):Prop where
 hl:H ls=some (.ins CL dx (lf (.ref B) d))
 hb:UO K H B prs
 hd:bx P0 w0 K H d xs
 bi:BI C w U O H
 nd:¬ U d
 nl:¬ U ls
 keys:∀ e∈xs,∃ sh,e.1=kd sh/\aG prs sh/\w.reg e.2.2=some sh
 bk:w.bk=aF prs
 ob:iU prs
 M2:w.M=2
section
variable {P0:ζ} {w0:ν} {K:Ι} {C:Cs} {CL:Addr} {prs:aU} {w:Wo} {U O:Addr->Prop} {H H':Hp} {ls dx d B:Addr} {xs:Dx}
theorem LS.loc (L:LS P0 w0 K C CL prs w U O H ls dx d B xs) {D:Addr} (hD:∀ o,H D=some o->∃ zs,o = .lst zs) (nB:D≠B) (nU:¬ U D) (hk:∀ b o,b≠D->H b=some o->H' b=some o):LS P0 w0 K C CL prs w U O H' ls dx d B xs:=by
 have ne:∀ {b:Addr} {o:HO},H b=some o->(∀ zs,o ≠ .lst zs)->b≠D:=λe n z=>by
  rw [z] at e
  obtain ⟨zs,h⟩:=hD _ e;exact n zs h
 have tk:Wf H H':=λb ys h=>by
  rcases h with h | ⟨o,h⟩
  ·exact .inl (hk _ _ (ne h (by intro zs z;cases z)) h)
  ·exact .inr ⟨o,hk _ _ (ne h (by intro zs z;cases z)) h⟩
 refine ⟨hk _ _ (ne L.hl (by intro zs z;cases z)) L.hl,L.hb.cB tk λo e=>hk _ _ (am nB) e,L.hd.keep tk (hk _ _ (ne L.hd.at_ (by intro zs z;cases z)) L.hd.at_),L.bi.keep λb o hb e=>hk b o (λz=>nU (by rw [<- z];exact hb)) e,L.nd,L.nl,L.keys,L.bk,L.ob,L.M2⟩
theorem LS.same (L:LS P0 w0 K C CL prs w U O H ls dx d B xs) (s:Yj H H'):LS P0 w0 K C CL prs w U O H' ls dx d B xs :=
 ⟨s _ _ L.hl,L.hb.cB (Wn s) λo e=>s _ _ e,L.hd.keep (Wn s) (s _ _ L.hd.at_),L.bi.keep λb o _ e=>s _ _ e,L.nd,L.nl,L.keys,L.bk,L.ob,L.M2⟩
theorem W4 {a:Addr} {k:Ζ} {φ:Heap->Prop} (h:DK K H a k) (fr:cD d H H') (hd:H d=some (.ext φ)):DK K H' a k:=h.cB (Wp fr hd (by intro xs z;cases z) (by intro o v z;cases z))
theorem LS.made (L:LS P0 w0 K C CL prs w U O H ls dx d B xs) (s:Yj H H') {p:Addr} {os ss:List Addr} {sh:Sh} (N:New H H' U p os ss) (hd:d∉os/\d∉ss) (hl:ls∉os/\ls∉ss) (hm:Wh C (w.add p sh os) (t0 (Ua U os ss)) H' p sh):LS P0 w0 K C CL prs (w.add p sh os) (Ua U os ss) O H' ls dx d B xs:=by
 have z9:¬ O p:=λz=>by
  obtain ⟨_,_,_,_,h,_⟩:=L.bi.op p z;exact N.nu _ (.inr N.inn) h.2
 refine ⟨s _ _ L.hl,L.hb.cB (Wn s) λo e=>s _ _ e,L.hd.keep (Wn s) (s _ _ L.hd.at_),N.bi L.bi (λ_ _=>Iff.rfl) (λ_=>hm) (λz=>absurd z z9),λz=>?_,λz=>?_,λe he=>?_,L.bk,L.ob,L.M2⟩
 ·rcases z with z | z | z
  ·exact L.nd z
  ·exact hd.1 z
  ·exact hd.2 z
 ·rcases z with z | z | z
  ·exact L.nl z
  ·exact hl.1 z
  ·exact hl.2 z
 ·obtain ⟨s',h1,h2,h3⟩:=L.keys e he
  exact ⟨s',h1,h2,(N.wg (H0:=λ_=>none) L.bi sh λ_ _=>rfl).reg _ _ h3⟩
theorem LS.reg (L:LS P0 w0 K C CL prs w U O H ls dx d B xs) {p:Addr} {sh:Sh} (hok:aG prs sh) (h:aJ xs (kd sh)=some p):w.reg p=some sh:=by
 obtain ⟨e,he,hp⟩:=ε.mp h;have hm:=List.mem_of_find?_eq_some he;have hk:e.1=kd sh:=of_decide_eq_true (List.find?_some (p:=λ(x:Ζ×Addr×Addr)=>decide (x.1=kd sh)) he);obtain ⟨s',h1,h2,h3⟩:=L.keys e hm;rw [hk] at h1
 rw [Ud hok h2 h1,<- hp];exact h3
end
noncomputable def nn (prs:aU) (xs:Dx):Nat:=(prs.filter λq=>(aJ xs (kd (.use q.1))).isNone).length
def Mo (xs xs':Dx):Prop:=∀ e,aJ xs e≠none->aJ xs' e≠none
theorem Mo.refl (xs:Dx):Mo xs xs:=λ_ h=>h
theorem Mo.trans {xs xs1 xs2:Dx} (a:Mo xs xs1) (b:Mo xs1 xs2):Mo xs xs2:=λe h=>b e (a e h)
theorem Mo.at {xs xs':Dx} (h:Mo xs xs') (e:Ζ):(aJ xs' e).isNone=true->(aJ xs e).isNone=true:=λz=>by
 cases c:aJ xs e with
 | none=>rfl
 | some p =>
  have:=h e (by rw [c];intro y;cases y);rw [Option.isNone_iff_eq_none] at z
  exact absurd z this
theorem QK {prs:aU} {xs xs':Dx} (h:Mo xs xs'):nn prs xs'<=nn prs xs:=by
 unfold nn
 induction prs with
 | nil=>exact Κ _
 | cons q prs ih =>
  rw [g7,g7];have:=h.at (kd (.use q.1))
  split
  ·rename_i c
   rw [if_pos (this c)];simp only [χ];omega
  ·split
   ·simp only [χ];omega
   ·exact ih
theorem Yga {prs:aU} {xs xs':Dx} {x:List Nat} (h:Mo xs xs') (hx:∃ q,(prs.find? λq=>decide (q.1=x))=some q) (h1:aJ xs (kd (.use x))=none) (h2:aJ xs' (kd (.use x))≠none):nn prs xs'+1<=nn prs xs:=by
 obtain ⟨q,hq⟩:=hx;have hm:=List.mem_of_find?_eq_some hq;have he:q.1=x:=of_decide_eq_true (List.find?_some (p:=λ(z:List Nat×Sh)=>decide (z.1=x)) hq);clear hq;subst he;unfold nn
 induction prs with
 | nil=>cases hm
 | cons r prs ih =>
  rw [g7,g7];have ha:=h.at (kd (.use r.1));have hmo:=QK (prs:=prs) h;unfold nn at hmo;rcases Φ.mp hm with rfl | hm
  ·have e1:(aJ xs (kd (.use q.1))).isNone=true:=by rw [h1];rfl
   have e2:¬ (aJ xs' (kd (.use q.1))).isNone=true:=λz=>h2 (Option.isNone_iff_eq_none.mp z)
   rw [if_neg e2,if_pos e1];simp only [χ];omega
  ·have:=ih hm
   split
   ·rename_i c
    rw [if_pos (ha c)];simp only [χ];omega
   ·split
    ·simp only [χ];omega
    ·exact this
theorem CV {prs:aU} {xs:Dx}:nn prs xs<=prs.length:=List.length_filter_le _ _
inductive iV (P0:ζ) (w0:ν) (K:Ι) (C:Cs) (CL:Addr) (l:Nat) (vs:List V) (H:Hp) (Q:VK) (E_:XK):Prop
 | mk (prs:aU) (w:Wo) (U O:Addr->Prop) (ls dx d B a:Addr) (sh:Sh) (xs:Dx) (h0:vs=[.ref ls,.ref a]) (h1:LS P0 w0 K C CL prs w U O H ls dx d B xs) (h2:DK K H a (kd sh)) (h3:aG prs sh) (h4:kind sh≠5) (h5:dep sh<=w.M) (h6:wt sh<=24) (h7:xs.length+50*nn prs xs+2*wt sh<=900) (h8:8*nn prs xs+2*dep sh+1<=l) (h9:∀ p H' w' U' xs',LS P0 w0 K C CL prs w' U' O H' ls dx d B xs'->WG w w' U U' H->cD d H H'->w'.reg p=some sh->xs'.length+50*nn prs xs'+1<=xs.length+50*nn prs xs+2*wt sh->Mo xs xs'->Q (.ref p) H')
inductive jY (P0:ζ) (w0:ν) (K:Ι) (C:Cs) (CL:Addr) (l:Nat) (vs:List V) (H:Hp) (Q:VK) (E_:XK):Prop
 | mk (prs:aU) (w:Wo) (U O:Addr->Prop) (ls dx d B a:Addr) (sh:Sh) (xs:Dx) (h0:vs=[.ref ls,.ref a]) (h1:LS P0 w0 K C CL prs w U O H ls dx d B xs) (h2:DK K H a (kd sh)) (h3:aG prs sh) (h4:dep sh<=w.M) (h5:wt sh<=24) (h6:xs.length+50*nn prs xs+2*wt sh<=900) (h7:8*nn prs xs+2*dep sh+2<=l) (h8:∀ p H' w' U' xs',LS P0 w0 K C CL prs w' U' O H' ls dx d B xs'->WG w w' U U' H->cD d H H'->w'.reg p=some sh->xs'.length+50*nn prs xs'<=xs.length+50*nn prs xs+2*wt sh->Mo xs xs'->Q (.ref p) H')
inductive uF (P0:ζ) (w0:ν) (K:Ι) (C:Cs) (CL:Addr) (l:Nat) (vs:List V) (H:Hp) (Q:VK) (E_:XK):Prop
 | mk (prs:aU) (w:Wo) (U O:Addr->Prop) (ls dx d B a:Addr) (x:List Nat) (xs:Dx) (h0:vs=[.ref ls,.ref a]) (h1:LS P0 w0 K C CL prs w U O H ls dx d B xs) (h2:DK K H a (kd (.use x))) (h3:aG prs (.use x)) (h4:aJ xs (kd (.use x))=none) (h5:xs.length+50*nn prs xs<=900) (h6:1<=l) (h7:8*nn prs xs<=l+1) (h8:∀ H' w' U' xs',LS P0 w0 K C CL prs w' U' O H' ls dx d B xs'->WG w w' U U' H->cD d H H'->aJ xs' (kd (.use x))≠none->xs'.length+50*nn prs xs'<=xs.length+50*nn prs xs->Mo xs xs'->Q .non H')
theorem YgS {P0:ζ} {w0:ν} {K:Ι} {C:Cs} {CL:Addr} {vs:List V} {H:Hp} {Q:VK} {E:XK} (h:iV P0 w0 K C CL 0 vs H Q E):False:=by
 obtain ⟨prs,w,U,O,ls,dx,d,B,a,sh,xs,_,_,_,_,_,_,_,_,h,_⟩:=h;omega
theorem JC {P0:ζ} {w0:ν} {K:Ι} {C:Cs} {CL:Addr} {vs:List V} {H:Hp} {Q:VK} {E:XK} (h:jY P0 w0 K C CL 0 vs H Q E):False:=by
 obtain ⟨prs,w,U,O,ls,dx,d,B,a,sh,xs,_,_,_,_,_,_,_,h,_⟩:=h;omega
theorem Yc1 {P0:ζ} {w0:ν} {K:Ι} {C:Cs} {CL:Addr} {vs:List V} {H:Hp} {Q:VK} {E:XK} (h:uF P0 w0 K C CL 0 vs H Q E):False:=by
 obtain ⟨prs,w,U,O,ls,dx,d,B,a,x,xs,_,_,_,_,_,_,h,_⟩:=h;omega
theorem uG {prs:aU} {sh:Sh} (ob:iU prs) (h:aG prs sh) (hw:wt sh<=24) {s:Nat} (hs:s<=45):sm (cnt (aF prs) sh s):=by
 obtain ⟨h1,h2⟩:=Ue prs ob sh s hs h hw;refine ⟨300*s+(12*wt sh - 6)+1,by omega,?_⟩;have h3:(2:Int)^(300*s+(12*wt sh - 6))<2^(300*s+(12*wt sh - 6)+1):=by
  have:(2:Nat)^(300*s+(12*wt sh - 6))<2^(300*s+(12*wt sh - 6)+1):=Nat.pow_lt_pow_right (by decide) (by omega)
  exact_mod_cast this
 have h4:((cnt (aF prs) sh s).natAbs:Int)<((2^(300*s+(12*wt sh - 6)+1):Nat):Int):=by
  rw [Int.natAbs_of_nonneg h1];have:=Int.lt_of_le_of_lt h2 h3
  exact_mod_cast this
 exact_mod_cast h4
theorem YgT {prs:aU} {ps:List Sh} (ob:iU prs) (h:Xe prs ps) (hw:aN ps<=24) {s:Nat} (hs:s<=45):sm (YU (aF prs) ps s):=by
 obtain ⟨h1,h2⟩:=Je prs ob ps s hs h hw;refine ⟨300*s+12*aN ps+1,by omega,?_⟩;have h3:(2:Int)^(300*s+12*aN ps)<2^(300*s+12*aN ps+1):=by
  have:(2:Nat)^(300*s+12*aN ps)<2^(300*s+12*aN ps+1):=Nat.pow_lt_pow_right (by decide) (by omega)
  exact_mod_cast this
 have h4:((YU (aF prs) ps s).natAbs:Int)<((2^(300*s+12*aN ps+1):Nat):Int):=by
  rw [Int.natAbs_of_nonneg h1];have:=Int.lt_of_le_of_lt h2 h3
  exact_mod_cast this
 exact_mod_cast h4
theorem new1 {U:Addr->Prop} {H H':Hp} {p c:Addr} {ss:List Addr} (nU:∀ {b:Addr},H b=none->¬ U b) (s:Yj H H') (hc:H c=none) (h4:H' c=some (.lst [])) (hs:∀ b∈ss,¬ U b/\b≠c/\H' b≠none) (hp:p∈ss):New H H' U p [c] ss :=
 ⟨λb hb=>by
  rcases hb with hb | hb
  ·rw [Ξ.mp hb];exact nU hc
  ·exact (hs b hb).1,hp,by simp,λb hb hb'=>(hs b hb').2.1 (Ξ.mp hb),λb o _ e=>s _ _ e,λb hb=>by
  rcases hb with hb | hb
  ·rw [Ξ.mp hb,h4];intro z;cases z
  ·exact (hs b hb).2.2⟩
section
variable {P0:ζ} {w0:ν} {K:Ι} {C:Cs} {CL:Addr} {prs:aU} {w w1:Wo} {U U1 O:Addr->Prop} {H H1 H3:Hp} {ls dx d B:Addr} {xs xs1:Dx}
theorem LS.fin (L:LS P0 w0 K C CL prs w U O H ls dx d B xs) (L1:LS P0 w0 K C CL prs w1 U1 O H1 ls dx d B xs1) (G1:WG w w1 U U1 H) (bA:cD d H H1) (s:Yj H1 H3) {p:Addr} {os ss:List Addr} {sh:Sh} (N:New H1 H3 U1 p os ss) (h0:∀ b,b∈os\/b∈ss->H b=none) (hm:Wh C (w1.add p sh os) (t0 (Ua U1 os ss)) H3 p sh) :
  LS P0 w0 K C CL prs (w1.add p sh os) (Ua U1 os ss) O H3 ls dx d B xs1/\WG w (w1.add p sh os) U (Ua U1 os ss) H/\cD d H H3/\(w1.add p sh os).reg p=some sh:=by
 have nd:∀ {l:List Addr},(∀ b∈l,H b=none)->d∉l:=λh z=>by have:=h d z;rw [L.hd.at_] at this;cases this
 have nl:∀ {l:List Addr},(∀ b∈l,H b=none)->ls∉l:=λh z=>by have:=h ls z;rw [L.hl] at this;cases this
 exact ⟨L1.made s N ⟨nd λb hb=>h0 b (.inl hb),nd λb hb=>h0 b (.inr hb)⟩ ⟨nl λb hb=>h0 b (.inl hb),nl λb hb=>h0 b (.inr hb)⟩ hm,G1.trans (N.wg L1.bi sh h0) (λ_ h=>h),bA.trans (Ug s),if_pos rfl⟩
theorem LS.back (L1:LS P0 w0 K C CL prs w1 U1 O H1 ls dx d B xs1) (bA:cD d H H1) {b:Addr} (h:H1 b=none):H b=none:=by
 cases e:H b with
 | none=>rfl
 | some o =>
  exfalso;by_cases c:b=d
  ·subst c;rw [L1.hd.at_] at h;cases h
  ·rw [bA b o c e] at h;cases h
theorem LS.one (L:LS P0 w0 K C CL prs w U O H ls dx d B xs) (L1:LS P0 w0 K C CL prs w1 U1 O H1 ls dx d B xs1) (G1:WG w w1 U U1 H) (bA:cD d H H1) (s:Yj H1 H3) {x bR c:Addr} {sh:Sh} {fs:List (Str×V)} (hx:H1 x=none) (hc:H1 c=none) (ncx:c≠x) (h3:H3 x=some (.ins (Uc C sh) bR (mf c fs))) (h4:H3 c=some (.lst [])) (hok:aG prs sh) (hd:dep sh<=w.M) (hw:wt sh<=24)
  (hS:∀ w2 U2,(∀ b s,w1.reg b=some s->w2.reg b=some s)->w2.bk=w1.bk->Sub C w2 (t0 U2) H3 x sh fs):LS P0 w0 K C CL prs (w1.add x sh [c]) (Ua U1 [c] [x]) O H3 ls dx d B xs1/\WG w (w1.add x sh [c]) U (Ua U1 [c] [x]) H/\cD d H H3/\(w1.add x sh [c]).reg x=some sh:=by
 have gR:∀ {b:Addr},H1 b=none->¬ U1 b:=λe z=>L1.bi.al _ z e
 have N:=new1 (U:=U1) (ss:=[x]) gR s hc h4 (λb hb=>by cases Ξ.mp hb;exact ⟨gR hx,am ncx,by rw [h3];intro z;cases z⟩) (.head _);have G:=N.wg (H0:=λ_=>none) L1.bi sh λ_ _=>rfl
 have hm:Wh C (w1.add x sh [c]) (t0 (Ua U1 [c] [x])) H3 x sh:=⟨bR,c,fs,N.un L1.bi _ (.head _),by show _<=w1.M;rw [G1.M];exact hd,λs hs=>by show sm (cnt w1.bk _ s);rw [L1.bk];exact uG L.ob hok hw hs,ι _,h3,N.dat _ (i:=0) rfl,h4,hS _ _ G.reg rfl⟩;exact L.fin L1 G1 bA s N (λb hb=>by
  rcases hb with hb | hb<;>cases Ξ.mp hb
  ·exact L1.back bA hc
  ·exact L1.back bA hx) hm
end
theorem Ygb {prs:aU} {sh q:Sh} (h:aG prs sh) (hq:q∈XL sh):aG prs q:=by
 cases sh with
 | row ps=>rw [aG] at h;exact Wu h.2 hq
 | pick mk ps=>rw [aG] at h;exact Wu h.2.2.1 hq
 | many p=>rw [aG] at h;cases Ξ.mp hq;exact h
 | alike p n=>rw [aG] at h;cases Ξ.mp hq;exact h.1
 | _=>cases hq
theorem YeU {sh q:Sh} (hq:q∈XL sh):dep q+1<=dep sh:=by
 cases sh with
 | row ps=>rw [show dep (.row ps)=YG ps+1 by rw [dep]];have:=X5 (ps:=ps) hq;omega
 | pick mk ps=>rw [show dep (.pick mk ps)=YG ps+1 by rw [dep]];have:=X5 (ps:=ps) hq;omega
 | many p=>cases Ξ.mp hq;rw [show dep (.many q)=dep q+1 by rw [dep]];omega
 | alike p n=>cases Ξ.mp hq;rw [show dep (.alike q n)=dep q+1 by rw [dep]];omega
 | _=>cases hq
theorem JD {sh:Sh} (h:sy sh=true):aN (XL sh)+1=wt sh:=by
 cases sh with
 | row ps=>rw [show wt (.row ps)=aN ps+1 by rw [wt]];rfl
 | pick mk ps=>rw [show wt (.pick mk ps)=aN ps+1 by rw [wt]];rfl
 | many p=>rw [show wt (.many p)=wt p+1 by rw [wt],show aN (XL (.many p))=aN [p] from rfl,aN,aN]
 | alike p n=>rw [show wt (.alike p n)=wt p+1 by rw [wt],show aN (XL (.alike p n))=aN [p] from rfl,aN,aN]
 | _=>cases h
theorem QL:∀ a b:List Sh,aN (a++b)=aN a+aN b
 | [],b=>by simp [aN]
 | p::a,b=>by
  have:=QL a b;rw [List.cons_append,aN,aN];omega
theorem YeV {l:List Sh} {i:Nat} {q:Sh} (h:l[i]?=some q):aN (l.take (i+1))=aN (l.take i)+wt q:=by
 rw [Y4 h,QL];simp [aN]
theorem Ybn (l:List Sh) (i:Nat):aN (l.take i)<=aN l:=by
 have e:aN l=aN (l.take i)+aN (l.drop i):=by rw [<- QL,List.take_append_drop]
 omega
theorem JF:∀ l:List Sh,l.length<=aN l
 | []=>ι _
 | p::l=>by
  have:=JF l;have:=Vo p;rw [aN,χ];omega
variable {m:Nat}
theorem JG {k:Nat} {Z1 Z9 Z3 Z2 Z5 Z6 Z4 Z7 Z0:Addr} (R:g.aD Z9 "new_maker" "Lister.new_maker" yG ["self","shape"]) (nA:g.Fn k "parts_of" ["shape"] (zX g.K)) (pG:g.Me k Z9 "maker_of" ["self","shape"] (jY g.P g.w g.K (Cs.mk Z0 Z4 Z5 Z6 Z2 Z3 Z1 Z7) Z9 m)) {cF:Nat} (Z3T:g.Ma cF "WholeMaker" Z0 ["self","low","high"] (Jk (Cs.mk Z0 Z4 Z5 Z6 Z2 Z3 Z1 Z7))) (lY:cF+1<=k) {cO:Nat} (Z4p:g.Ma cO "TextMaker" Z4 ["self","signs"] (Jl (Cs.mk Z0 Z4 Z5 Z6 Z2 Z3 Z1 Z7))) (nD:cO+1<=k) {cU:Nat} (Z4S:g.Ma cU "RowMaker" Z5 ["self","parts"] (Ju (Cs.mk Z0 Z4 Z5 Z6 Z2 Z3 Z1 Z7))) (oh:cU+1<=k) {cP:Nat} (Z4q:g.Ma cP "PickMaker" Z2 ["self","marks","parts"] (Jp (Cs.mk Z0 Z4 Z5 Z6 Z2 Z3 Z1 Z7))) (nF:cP+1<=k) {cQ:Nat} (Z4r:g.Ma cQ "ManyMaker" Z3 ["self","part"] (Jm (Cs.mk Z0 Z4 Z5 Z6 Z2 Z3 Z1 Z7))) (nG:cQ+1<=k) {cG:Nat} (Z3U:g.Ma cG "AlikeMaker" Z1 ["self","part","times"] (Jo (Cs.mk Z0 Z4 Z5 Z6 Z2 Z3 Z1 Z7))) (lZ:cG+1<=k) (ZH:Cls g.K Z9) (ZJ:Yf g.K Z9 "book") (Zu:Yf g.K Z9 "makers"):g.Me (k+1) Z9 "new_maker" ["self","shape"] (iV g.P g.w g.K (Cs.mk Z0 Z4 Z5 Z6 Z2 Z3 Z1 Z7) Z9 (m+1)):=by
 refine R.me yH (λvs H Q E h=>by obtain ⟨prs,w,U,O,ls,dx,d,B,a,sh,xs,rfl,L,hk,hok,hki,hdp,cH,fO,hnm,q⟩:=h;rfl) λf_ cdv A outer s H vs Q E hr h=>?_
 obtain ⟨prs,w,U,O,ls,dx,d,B,a,sh,xs,rfl,L,hk,hok,hki,hdp,cH,fO,hnm,q⟩:=h;refine ⟨_,(Ye (Yp (i:=2) yH.nd rfl (.inl rfl) (Yr YC (pv 1) Yg)) (Ye (YF (Yq YK (pv 2) YM (Ys _)) (Yi (Yn (WM Z3T hr (Ya (Yr YC (pv 1) Yg) (Ya (Yr YC (pv 1) Yg) Yd))))) Yw) (Ye (YF (Yq YK (pv 2) YM (Ys _)) (Yi (Yn (WM Z4p hr (Ya (Yr YC (pv 1) Yg) Yd)))) Yw) (Ye (Ga (i:=3) (src:=[none,some 0]) (N':=(["part","self"]:List Str)) (g:=Yy 0) yH.nd rfl (.inl rfl) (.own (.cap (i:=0) rfl rfl (by first | exact .inl rfl | exact .inr rfl) .nil)) rfl (Xc (Yz nA hr (Ya (pv 1) Yd))) (λcl C s₀ H₀ fp pn=>(Yu (i:=0) (show ax (["part","self"]:List Str) by decide +kernel) rfl (.inl rfl) (.inr rfl))) (λcl C s₀ H₀ fp pn=>Y0) (λcl C s₀ H₀ fp pn=>(Xx pG ZH hr (pv 1) (Ya (pv 0) Yd))) (by intro x hx;simp at hx;first | (subst hx;exact .inl rfl) | (rcases hx with rfl | rfl<;>exact .inl rfl) | (rcases hx with rfl | rfl | rfl<;>exact .inl rfl) | (rcases hx with rfl | rfl | rfl | rfl<;>exact .inl rfl) | (rcases hx with rfl | rfl | rfl | rfl | rfl<;>exact .inl rfl)) (by rfl) (by decide) (by decide +kernel) (by intro _;rfl) (by rfl) (by first | exact .inl rfl | exact .inr rfl | assumption)) (Ye (YF (Yq YK (pv 2) YM (Ys _)) (Yi (Yn (WM Z4S hr (Ya (pv 3) Yd)))) Yw) (Ye (YF (Yq YK (pv 2) YM (Ys _)) (Yi (Yn (WM Z4q hr (Ya (Xt (src:=[none,none]) (N':=(["mark","part"]:List Str)) (g:=Vf g.K 2 (XB (Yy 0) (XB (Yy 1) Vv))) (.own (.own .nil)) rfl (UU (Yr YC (pv 1) Yg)) (λcl C s₀ H₀ fp pn=>(VR (n:=2) rfl (Xz (Yu (i:=0) (show ax (["mark","part"]:List Str) by decide +kernel) rfl (.inl rfl) (.inr rfl)) (Xz (Yu (i:=1) (show ax (["mark","part"]:List Str) by decide +kernel) rfl (.inl rfl) (.inr rfl)) Vi)))) (λcl C s₀ H₀ fp pn=>Y0) (λcl C s₀ H₀ fp pn=>(pv 0)) (by intro x hx;simp at hx)) (Ya (pv 3) Yd))))) Yw) (Ye (YF (Yq YK (pv 2) YM (Ys _)) (Yi (Yn (WM Z4r hr (Ya (Yr YQ (pv 3) Yg) Yd)))) Yw) (Ye (YF (Yq YK (pv 2) YM (Ys _)) (Yi (Yn (WM Z3U hr (Ya (Yr YQ (pv 3) Yg) (Ya (Yr YC (pv 1) Yg) Yd))))) Yw) (Yi Vu))))))))),?_⟩;have hkd:=hk.den;have nU:∀ {b:Addr},H b=none->¬ U b:=λe z=>L.bi.al _ z e
 have parts:sy sh=true->∀ (mv:V) (Qc:VK),(∀ D (as:List Addr) H1 w1 U1 xs1,LS g.P g.w g.K (Cs.mk Z0 Z4 Z5 Z6 Z2 Z3 Z1 Z7) Z9 prs w1 U1 O H1 ls dx d B xs1->WG w w1 U U1 H->cD d H H1->H D=none->¬ U1 D->H1 D=some (.lst (as.map V.ref))->WE w1.reg as (XL sh)->xs1.length+50*nn prs xs1+2<=xs.length+50*nn prs xs+2*wt sh->Mo xs xs1->Qc (.ref D) H1) ->
   c7 [none,some 0] (Wb g.K (W7 (zX g.K) [] E0 (Vx (WU 1) Vw))) (Yy 0) XO (UY Z9 "maker_of" (jY g.P g.w g.K (Cs.mk Z0 Z4 Z5 Z6 Z2 Z3 Z1 Z7) Z9 m) [] E0 (WU 1) (Vx (WU 0) Vw)) [some (V.ref ls),some (V.ref a),some mv,none] H Qc:=by
  intro h3 mv Qc hq;have hsw:=JD h3;refine YcZ (K:=g.K) (λb vs H1=>Yj H H1/\H b=none/\∃ bs:List Addr,vs=bs.map V.ref/\H1 b=some (.lst vs)/\bs.length=(XL sh).length/\∀ (i:Nat) b q,bs[i]?=some b->(XL sh)[i]?=some q->DK g.K H b (kd q)) (λR r=>?_) ?_
  ·walk_at "rd"
   exact ⟨prs,a,sh,rfl,hk,hok,h3,λD bs H1 s1 hD hd hl hb=>r D _ H1 ⟨s1,hD,bs,rfl,hd,hl,hb⟩⟩
  ·rintro b vs H1 ⟨s1,gb,bs,rfl,hb1,hbl,hbs⟩
   have hlw:=JF (XL sh);refine ⟨ao.of hb1,by rw [Β];omega,λD i zs H'=>∃ (as:List Addr) (w1:Wo) (U1:Addr->Prop) (xs1:Dx),zs=as.map V.ref/\as.length=i/\LS g.P g.w g.K (Cs.mk Z0 Z4 Z5 Z6 Z2 Z3 Z1 Z7) Z9 prs w1 U1 O H' ls dx d B xs1/\WG w w1 U U1 H/\cD d H1 H'/\¬ U1 D/\H' D=some (.lst zs)/\(∀ (j:Nat) a q,as[j]?=some a->(XL sh)[j]?=some q->w1.reg a=some q)/\xs1.length+50*nn prs xs1<=xs.length+50*nn prs xs+2*aN ((XL sh).take i)/\Mo xs xs1,?_,?_,?_,?_⟩
   ·intro D hD
    have sD:=Yj.aj hD (.lst []);exact ⟨[],w,U,xs,rfl,rfl,(L.same s1).same sD,.refl _ _ _,Ug sD,nU (s1.free hD),Yc,λj a q h=>(by simp at h),by simp [aN],.refl _⟩
   ·rintro D i zs H' hD ⟨as,w1,U1,xs1,rfl,h1,L1,G1,bA,gU,h2,_⟩
    have nbd:b≠d:=Xw hb1 (s1 _ _ L.hd.at_) (by intro z;cases z);exact ⟨by rw [Β,h1],h2,ao.of (bA _ _ nbd hb1)⟩
   ·rintro D i x zs H' hD hx ⟨as,w1,U1,xs1,rfl,hal,L1,G1,bA,gU,hD',hreg,iy,eO⟩ R r
    rw [Λ] at hx
    obtain ⟨bq,JH,rfl⟩:=ε.mp hx;have hi:=(Η.mp JH).1;have pH:(XL sh)[i]?=some ((XL sh)[i]'(by omega)):=Ε _;generalize (XL sh)[i]'(by omega)=sq at pH;have hmem:=Τ pH;have hdq:=YeU hmem;have hwq:=YeV pH;have hwl:=Ybn (XL sh) (i+1);have hnn:=QK (prs:=prs) eO;have JK:cD d H H':=(Ug s1).trans bA;have dkq:=W4 (hbs i bq sq JH pH) JK L.hd.at_;walk_at "rd";refine ⟨_,_,L1.hl,Qj _ _ (by decide +kernel) (by decide +kernel),prs,w1,U1,O,ls,dx,d,B,bq,sq,xs1,rfl,L1,dkq,Ygb hok hmem,by rw [G1.M];omega,by omega,by omega,by omega,λp H2 w2 U2 xs2 L2 G2 d7 hr2 hl2 nk2=>?_⟩;have nDd:D≠d:=Xw hD' L1.hd.at_ (by intro z;cases z);have hD2:=d7 _ _ nDd hD';have uw:¬ U2 D:=λz=>by
     rcases G2.u2 D z with z | z
     ·exact gU z
     ·rw [hD'] at z;cases z
    have nDB:D≠B:=λz=>by
     obtain ⟨vs,hB,_⟩:=L.hb;rw [z,s1 _ _ hB] at hD;cases hD
    refine r _ _ hD2 ⟨as++[p],w2,U2,xs2,by rw [a8];rfl,by rw [Μ,hal];rfl,L2.loc (λo e=>by rw [hD2] at e;exact ⟨_,(Γ e).symm⟩) nDB uw (λb o hb e=>by rw [Yh hb];exact e),G1.trans G2 λz hz=>?_,λz o hz e=>?_,uw,Yc,λj a' q' h1 h2=>?_,by omega,eO.trans nk2⟩
    ·intro e
     exact hz (L1.back JK e)
    ·rw [Yh (Ym e hD)]
     exact d7 _ _ hz (bA _ _ hz e)
    ·by_cases c:j<as.length
     ·rw [aw c] at h1
      exact G2.reg _ _ (hreg j a' q' h1 h2)
     ·have hj:j=as.length:=by
       have:=(Η.mp h1).1;rw [Μ,av] at this
       omega
      subst hj;rw [az (Κ _),fq] at h1
      have:p=a':=Γ h1;subst this;rw [hal,pH] at h2
      have:=Γ h2;subst this;exact hr2
   ·rintro D zs H' hD ⟨as,w1,U1,xs1,rfl,hal,L1,G1,bA,gU,hD',hreg,iy,eO⟩
    rw [Β] at hal iy
    rw [af (by omega)] at iy
    exact hq D as H' w1 U1 xs1 L1 G1 ((Ug s1).trans bA) (s1.free hD) gU hD' ⟨by omega,hreg⟩ (by omega) eO
 walk_at "rd"
 cases sh with
 | w lo span =>
  rw [kd] at hkd
  obtain ⟨b,vs,e,hT,hvs⟩:=Xd hkd;have:=V.ref.inj e;subst this;obtain ⟨u1,r1,rfl,h5,h6⟩:=YH hvs;obtain ⟨u2,r2,rfl,h7,h8⟩:=YH h6;obtain ⟨u3,r3,rfl,h9,h10⟩:=YH h8;have:=XV h10;subst this;have:=XF h5;subst this;have:=WS h7;subst this;have:=WS h9;subst this;refine ⟨_,hT,_,Yo (j:=0) rfl,YA _ _,We rfl ⟨_,hT,_,Yo (j:=1) rfl,_,hT,_,Yo (j:=2) rfl,λx bR hx hdx hne=>⟨x,bR,lo,span,rfl,Yc,λc H3 hc sb h3 h4=>⟨rfl,?_⟩⟩⟩⟩;obtain ⟨r1,r2,r3,r4⟩:=L.one L (.refl _ _ _) (λ_ _ _ e=>e) (Xy hx hdx sb) hx (Y3 (Y3 hc)) (λz=>by rw [z,Yc] at hc;cases hc) (sh := .w lo span) h3 h4 hok hdp cH λw2 U2 _ _=>rfl
  have:=Vo (.w lo span);exact q x H3 _ _ xs r1 r2 r3 r4 (by omega) (.refl _)
 | row ps =>
  rw [kd] at hkd
  obtain ⟨v,hT,hv⟩:=Wj hkd;have hok':=hok;rw [aG] at hok'
  have hw':aN ps+1=wt (.row ps):=JD (sh := .row ps) rfl;refine ⟨_,hT,_,Yo (j:=0) rfl,YA _ _,Y6 (by decide +kernel) ⟨YA _ _,Y6 (by decide +kernel) (parts rfl _ _ λD as H1 w1 U1 xs1 L1 G1 bA gD gU hD1 hra iy eO=>?_)⟩⟩;have gR:∀ {b:Addr},H1 b=none->¬ U1 b:=λe z=>L1.bi.al _ z e
  have hal:as.length=ps.length:=hra.1;refine ⟨YA _ _,We rfl λx bR hx hdx hne=>⟨x,bR,D,as,rfl,Yc,by rw [Yh (Ym hD1 hx),Yh (Ym hD1 hdx)];exact hD1,by omega,λc T dt Lw ws H3 hc JL hL hws hnd hwl sb h3 h4 hTT eN JM=>⟨rfl,?_⟩⟩⟩;have s3:=Xy hx hdx sb;have fr:∀ {b:Addr},upd (upd H1 bR (.own x)) x (.ins Z5 bR []) b=none->H1 b=none:=λe=>Y3 (Y3 e)
  have Aa:∀ b∈c::ws,H1 b=none:=λb hb=>by
   rcases Φ.mp hb with rfl | hb
   ·exact fr hc
   ·exact fr (hws b hb)
  have los:∀ b∈c::ws,H3 b=some (.lst []):=λb hb=>by
   rcases Φ.mp hb with rfl | hb
   ·exact h4
   ·exact JM b hb
  have N:New H1 H3 U1 x (c::ws) [x,D,T,Lw]:=by
   refine ⟨λb hb=>?_,.head _,hnd,λb hb hb'=>?_,λb o _ e=>s3 _ _ e,λb hb=>?_⟩
   ·rcases hb with hb | hb
    ·exact gR (Aa b hb)
    ·simp only [Φ,ac,or_false] at hb
     rcases hb with rfl | rfl | rfl | rfl
     ·exact gR hx
     ·exact gU
     ·exact gR (fr JL)
     ·exact gR (fr hL)
   ·have e1:=los b hb
    have e2:=Aa b hb;simp only [Φ,ac,or_false] at hb';rcases hb' with rfl | rfl | rfl | rfl
    ·rw [h3] at e1;cases e1
    ·rw [hD1] at e2;cases e2
    ·rw [hTT] at e1;cases e1
    ·rw [eN] at e1
     injection e1 with e1
     injection e1 with e1
     have:=congrArg ix e1;rw [Β,hwl] at this
     simp at this
   ·rcases hb with hb | hb
    ·rw [los b hb];intro z;cases z
    ·simp only [Φ,ac,or_false] at hb
     rcases hb with rfl | rfl | rfl | rfl
     ·rw [h3];intro z;cases z
     ·rw [s3 _ _ hD1];intro z;cases z
     ·rw [hTT];intro z;cases z
     ·rw [eN];intro z;cases z
  have hm:Wh (Cs.mk Z0 Z4 Z5 Z6 Z2 Z3 Z1 Z7) (w1.add x (.row ps) (c::ws)) (t0 (Ua U1 (c::ws) [x,D,T,Lw])) H3 x (.row ps):=by
   refine ⟨bR,c,fR D T,N.un L1.bi _ (.head _),by show _<=w1.M;rw [G1.M];exact hdp,λs hs=>by show sm (cnt w1.bk _ s);rw [L1.bk];exact uG L.ob hok cH hs,ι _,h3,N.dat _ (i:=0) rfl,h4,D,T,dt,Lw,as,ws,rfl,N.un L1.bi _ (.tail _ (.head _)),N.un L1.bi _ (.tail _ (.tail _ (.head _))),N.un L1.bi _ (.tail _ (.tail _ (.tail _ (.head _)))),s3 _ _ hD1,(hra.grow (N.wg (H0:=λ_=>none) L1.bi _ λ_ _=>rfl)).toM,by omega,hTT,eN,by omega,λi y hy=>⟨N.dat _ (i:=i+1) (by simpa using hy),Κ _,ι _,JM y (Τ hy)⟩,λi s hs=>?_⟩
   show sm (YU w1.bk _ s)
   rw [L1.bk];have:=VJ ps i;exact YgT L.ob (UM i hok'.2) (by omega) hs
  obtain ⟨r1,r2,r3,r4⟩:=L.fin L1 G1 bA s3 N (λb hb=>by
   rcases hb with hb | hb
   ·exact L1.back bA (Aa b hb)
   ·simp only [Φ,ac,or_false] at hb
    rcases hb with rfl | rfl | rfl | rfl
    ·exact L1.back bA hx
    ·exact gD
    ·exact L1.back bA (fr JL)
    ·exact L1.back bA (fr hL)) hm
  exact q x H3 _ _ xs1 r1 r2 r3 r4 (by omega) eO
 | pick mk ps =>
  rw [kd] at hkd
  obtain ⟨v,hT,hv⟩:=Wj hkd;have hok':=hok;rw [aG] at hok'
  refine ⟨_,hT,_,Yo (j:=0) rfl,YA _ _,Y6 (by decide +kernel) ⟨YA _ _,Y6 (by decide +kernel) (parts rfl _ _ λD as H1 w1 U1 xs1 L1 G1 bA gD gU hD1 hra iy eO=>?_)⟩⟩;have hal:as.length=ps.length:=hra.1;refine ⟨YA _ _,Y6 (by decide +kernel) ⟨YA _ _,We rfl ?_⟩⟩;have jZ:=(W4 hk bA L.hd.at_).den;rw [kd] at jZ
  obtain ⟨v1,hT1,hv1⟩:=Wj jZ;obtain ⟨b,vs,rfl,hb,hvs⟩:=Xd hv1;obtain ⟨ts,bs,rfl,hl1,hl2,hts,hbs⟩:=VM hok'.1 hvs;have hlz:((mk.zip bs).map λp=>(V.str (S p.1),V.ref p.2)).length=bs.length:=by rw [Β,List.length_zip];omega
  refine Qi (K:=g.K) (b:=b) (xs:=ts.map V.ref) ((mk.zip bs).map λp=>(V.str (S p.1),V.ref p.2)) (mk.map λm=>V.str (S m)) (λR r=>by walk_at "rd";exact ⟨_,hT1,_,Yo (j:=1) rfl,r⟩) hb ?_ (by rw [hlz,Β];omega) (by rw [Β,Β];omega) (by rw [Β];omega) ?_ ?_
  ·intro i x p hx hp
   rw [Λ] at hx hp
   obtain ⟨T,hT',rfl⟩:=ε.mp hx;obtain ⟨⟨m,b'⟩,hz,rfl⟩:=ε.mp hp;rw [et] at hz
   exact ⟨T,rfl,hts i T m b' hT' hz.1 hz.2⟩
  ·intro i p y H' hp hy sm R r
   rw [Λ] at hp hy
   obtain ⟨⟨m,b'⟩,hz,rfl⟩:=ε.mp hp;rw [et] at hz
   rw [hz.1] at hy
   have:V.str (S m)=y:=Γ hy;subst this;walk_at "rd";exact r H' (.refl _)
  ·intro M H2 gM s2 hM x bR hx hdx hne
   have L2:=L1.same s2;have gR:∀ {b:Addr},H2 b=none->¬ U1 b:=λe z=>L2.bi.al _ z e
   have hUM:¬ U1 M:=λz=>L1.bi.al _ z gM
   have hD2:=s2 _ _ hD1;refine ⟨x,bR,M,D,rfl,Yc,λc H3 hc sb h3 h4=>⟨rfl,?_⟩⟩;have s3:=Xy hx hdx sb;have ju:=Y3 (Y3 hc);have N:New H2 H3 U1 x [c] [x,M,D]:=by
    refine ⟨λb hb=>?_,.head _,by simp,λb hb hb'=>?_,λb o _ e=>s3 _ _ e,λb hb=>?_⟩
    ·rcases hb with hb | hb
     ·rw [Ξ.mp hb];exact gR ju
     ·simp only [Φ,ac,or_false] at hb
      rcases hb with rfl | rfl | rfl
      ·exact gR hx
      ·exact hUM
      ·exact gU
    ·have:=Ξ.mp hb
     subst this;simp only [Φ,ac,or_false] at hb';rcases hb' with rfl | rfl | rfl
     ·rw [h3] at h4;cases h4
     ·rw [hM] at ju;cases ju
     ·rw [hD2] at ju;cases ju
    ·rcases hb with hb | hb
     ·rw [Ξ.mp hb,h4];intro z;cases z
     ·simp only [Φ,ac,or_false] at hb
      rcases hb with rfl | rfl | rfl
      ·rw [h3];intro z;cases z
      ·rw [s3 _ _ hM];intro z;cases z
      ·rw [s3 _ _ hD2];intro z;cases z
   have hm:Wh (Cs.mk Z0 Z4 Z5 Z6 Z2 Z3 Z1 Z7) (w1.add x (.pick mk ps) [c]) (t0 (Ua U1 [c] [x,M,D])) H3 x (.pick mk ps):=⟨bR,c,fP M D,N.un L2.bi _ (.head _),by show _<=w1.M;rw [G1.M];exact hdp,λs hs=>by show sm (cnt w1.bk _ s);rw [L1.bk];exact uG L.ob hok cH hs,ι _,h3,N.dat _ (i:=0) rfl,h4,M,D,as,rfl,N.un L2.bi _ (.tail _ (.head _)),N.un L2.bi _ (.tail _ (.tail _ (.head _))),s3 _ _ hM,s3 _ _ hD2,(hra.grow (N.wg (H0:=λ_=>none) L2.bi _ λ_ _=>rfl)).toC,by omega⟩;have d7:cD d H H2:=bA.trans (Ug s2);obtain ⟨r1,r2,r3,r4⟩:=L.fin L2 G1 d7 s3 N (λb hb=>by
    rcases hb with hb | hb
    ·rw [Ξ.mp hb];exact L2.back d7 ju
    ·simp only [Φ,ac,or_false] at hb
     rcases hb with rfl | rfl | rfl
     ·exact L2.back d7 hx
     ·exact L1.back bA gM
     ·exact gD) hm
   exact q x H3 _ _ xs1 r1 r2 r3 r4 (by omega) eO
 | t sg =>
  rw [kd] at hkd
  obtain ⟨v,hT,hv⟩:=Wj hkd;have:=XF hv;subst this;have hok':=hok;rw [aG] at hok'
  refine ⟨_,hT,_,Yo (j:=0) rfl,YA _ _,Y6 (by decide +kernel) ⟨YA _ _,We rfl ⟨_,hT,_,Yo (j:=1) rfl,λx bR hx hdx hne=>⟨x,bR,sg,rfl,Yc,λc H3 hc sb h3 h4=>⟨rfl,?_⟩⟩⟩⟩⟩;obtain ⟨r1,r2,r3,r4⟩:=L.one L (.refl _ _ _) (λ_ _ _ e=>e) (Xy hx hdx sb) hx (Y3 (Y3 hc)) (λz=>by rw [z,Yc] at hc;cases hc) (sh := .t sg) h3 h4 hok hdp cH λw2 U2 _ _=>⟨rfl,hok'.2.1⟩
  have:=Vo (.t sg);exact q x H3 _ _ xs r1 r2 r3 r4 (by omega) (.refl _)
 | many s =>
  rw [kd] at hkd
  obtain ⟨v,hT,hv⟩:=Wj hkd;refine ⟨_,hT,_,Yo (j:=0) rfl,YA _ _,Y6 (by decide +kernel) ⟨YA _ _,Y6 (by decide +kernel) (parts rfl _ _ λD as H1 w1 U1 xs1 L1 G1 bA gD gU hD1 hra iy eO=>?_)⟩⟩;obtain ⟨a1,rfl⟩:∃ a1,as=[a1]:=List.length_eq_one_iff.mp hra.1;have hga:=hra.2 0 a1 s rfl rfl;refine ⟨YA _ _,Y6 (by decide +kernel) ⟨YA _ _,Y6 (by decide +kernel) ⟨YA _ _,We rfl ⟨D,rfl,_,ao.of hD1,_,Yo (j:=0) rfl,λx bR hx hdx hne=>⟨x,bR,a1,rfl,Yc,λc H3 hc sb h3 h4=>⟨rfl,?_⟩⟩⟩⟩⟩⟩;obtain ⟨r1,r2,r3,r4⟩:=L.one L1 G1 bA (Xy hx hdx sb) hx (Y3 (Y3 hc)) (λz=>by rw [z,Yc] at hc;cases hc) (sh := .many s) h3 h4 hok hdp cH λw2 U2 g _=>⟨a1,rfl,g _ _ hga,ι _⟩
  exact q x H3 _ _ xs1 r1 r2 r3 r4 (by omega) eO
 | alike s n =>
  rw [kd] at hkd
  obtain ⟨v,hT,hv⟩:=rZ hkd;have hok':=hok;rw [aG] at hok'
  refine ⟨_,hT,_,Yo (j:=0) rfl,YA _ _,Y6 (by decide +kernel) ⟨YA _ _,Y6 (by decide +kernel) (parts rfl _ _ λD as H1 w1 U1 xs1 L1 G1 bA gD gU hD1 hra iy eO=>?_)⟩⟩;obtain ⟨a1,rfl⟩:∃ a1,as=[a1]:=List.length_eq_one_iff.mp hra.1;have hga:=hra.2 0 a1 s rfl rfl;have jZ:=(W4 hk bA L.hd.at_).den;rw [kd] at jZ
  obtain ⟨v1,hT1,_⟩:=rZ jZ;refine ⟨YA _ _,Y6 (by decide +kernel) ⟨YA _ _,Y6 (by decide +kernel) ⟨YA _ _,Y6 (by decide +kernel) ⟨YA _ _,We rfl ⟨D,rfl,_,ao.of hD1,_,Yo (j:=0) rfl,_,hT1,_,Yo (j:=2) rfl,λx bR hx hdx hne=>⟨x,bR,a1,n,rfl,Yc,λc H3 hc sb h3 h4=>⟨rfl,?_⟩⟩⟩⟩⟩⟩⟩;obtain ⟨r1,r2,r3,r4⟩:=L.one L1 G1 bA (Xy hx hdx sb) hx (Y3 (Y3 hc)) (λz=>by rw [z,Yc] at hc;cases hc) (sh := .alike s n) h3 h4 hok hdp cH λw2 U2 g _=>⟨⟨a1,rfl,g _ _ hga,i5 (Nat.zero_div _)⟩,hok'.2⟩
  exact q x H3 _ _ xs1 r1 r2 r3 r4 (by omega) eO
 | use x=>exact absurd rfl hki
theorem Wh.N8 {C:Cs} {w:Wo} {t:Sw} {H:Hp} {p r cl eY:Addr} {fp:List (Str×V)} {o:HO} {sh:Sh} {cp:Addr} (hp:H p=some (.ins cl eY (mf cp fp))) (hD:w.D p=none) (n:r≠p) (h:Wh C w t H r sh):Wh C w t (upd H p o) r sh:=by
 obtain ⟨dx,c,fs,h1,h2,h3,h4,h5,h6,h7,h8⟩:=h;have no:∀ {b:Addr} {x:Addr×Nat},w.D b=some x->b≠p:=λe z=>by rw [z,hD] at e;cases e
 have nl:∀ {b:Addr} {vs:List V},H b=some (.lst vs)->b≠p:=λe z=>by rw [z,hp] at e;cases e
 refine ⟨dx,c,fs,h1,h2,h3,h4,(Yh n).trans h5,h6,(Yh (no h6)).trans h7,?_⟩
 cases sh with
 | w lo span=>exact h8
 | t sg=>exact h8
 | many q=>exact h8
 | alike q n=>exact h8
 | row ps =>
  obtain ⟨P,T,dt,L,as,ws,k1,k2,k3,k4,k5,k6,k7,k8,k9,k10,k11,k12⟩:=h8;have nT:T≠p:=λz=>by
   rw [z,hp] at k8
   have e:=Γ k8
   injection e with _ _ e
   unfold mf Wr at e
   injection e with e _
   injection e with e _
   exact n1 (a:=("counts":Str)) (b:=("parts":Str)) (by decide +kernel) e
  refine ⟨P,T,dt,L,as,ws,k1,k2,k3,k4,(Yh (nl k5)).trans k5,k6,k7,(Yh nT).trans k8,(Yh (nl k9)).trans k9,k10,λi x hx=>?_,k12⟩;obtain ⟨j1,j2,j3,j4⟩:=k11 i x hx;exact ⟨j1,j2,j3,(Yh (no j1)).trans j4⟩
 | pick mk ps =>
  obtain ⟨M,P,as,k1,k2,k3,k4,k5,k6,k7⟩:=h8;exact ⟨M,P,as,k1,k2,k3,(Yh (nl k4)).trans k4,(Yh (nl k5)).trans k5,k6,k7⟩
 | use x=>exact h8
theorem BI.close {C:Cs} {w:Wo} {U O O':Addr->Prop} {H:Hp} (B:BI C w U O' H) {p q:Addr} {x:List Nat} (hO:∀ r,r≠p->(O' r↔O r)) (hp':O' p) (hr:w.reg p=some (.use x)) (hq:w.reg q=some (w.bk x)):∃ dx c,H p=some (.ins C.use dx (mf c (fU .non)))/\(¬ O p->BI C w U O (upd H p (.ins C.use dx (mf c (fU (.ref q)))))):=by
 obtain ⟨x',dx,c,e1,e2,e3,e4,e5,e6⟩:=B.op p hp';rw [hr] at e1
 have:=Sh.use.inj (Γ e1);subst this;refine ⟨dx,c,e4,λnO=>⟨λr s hrs ho=>?_,λr hor=>?_,λb hb=>?_,B.ow,B.oo,B.inj⟩⟩
 ·by_cases cc:r=p
  ·subst cc
   rw [hr] at hrs
   have:=Γ hrs;subst this;have Ac:c≠r:=λz=>by rw [z,e2.1] at e5;cases e5
   exact ⟨dx,c,_,e2,by simp [dep],e3,ι _,Yc,e5,(Yh Ac).trans e6,q,rfl,hq,ι _⟩
  ·exact (B.at_ r s hrs λz=>ho ((hO r cc).mp z)).N8 e4 e2.1 cc
 ·have cc:r≠p:=λz=>nO (by rw [<- z];exact hor)
  obtain ⟨y,dy,cy,f1,f2,f3,f4,f5,f6⟩:=B.op r ((hO r cc).mpr hor);have Ac:cy≠p:=λz=>by rw [z,e2.1] at f5;cases f5
  exact ⟨y,dy,cy,f1,f2,f3,(Yh cc).trans f4,f5,(Yh Ac).trans f6⟩
 ·by_cases cc:b=p
  ·rw [cc,Yc];intro z;cases z
  ·rw [Yh cc];exact B.al b hb
section
variable {P0:ζ} {w0:ν} {K:Ι} {C:Cs} {CL:Addr} {prs:aU} {w:Wo} {U O O':Addr->Prop} {H H':Hp} {ls dx d B:Addr} {xs:Dx}
theorem LS.close (L:LS P0 w0 K C CL prs w U O' H ls dx d B xs) {p q:Addr} {x:List Nat} (hO:∀ r,r≠p->(O' r↔O r)) (hp':O' p) (nO:¬ O p) (hr:w.reg p=some (.use x)) (hq:w.reg q=some (w.bk x)) (nls:ls≠p):∃ eY c,H p=some (.ins C.use eY (mf c (fU .non)))/\LS P0 w0 K C CL prs w U O (upd H p (.ins C.use eY (mf c (fU (.ref q))))) ls dx d B xs:=by
 obtain ⟨eY,c,h1,h2⟩:=L.bi.close hO hp' hr hq;have hk:∀ b o,b≠p->H b=some o->upd H p (.ins C.use eY (mf c (fU (.ref q)))) b=some o:=λb o n e=>(Yh n).trans e
 have tk:Wf H (upd H p (.ins C.use eY (mf c (fU (.ref q))))):=Wp hk h1 (by intro xs z;cases z) (by intro o v z;cases z);obtain ⟨vs,hB,_⟩:=L.hb;exact ⟨eY,c,h1,hk _ _ nls L.hl,L.hb.cB tk λo e=>hk _ _ (Xw hB h1 (by intro z;cases z)) e,L.hd.keep tk (hk _ _ (Xw L.hd.at_ h1 (by intro z;cases z)) L.hd.at_),h2 nO,L.nd,L.nl,L.keys,L.bk,L.ob,L.M2⟩
theorem LS.put (L:LS P0 w0 K C CL prs w U O H ls dx d B xs) {a p:Addr} {sh:Sh} (hk:DK K H a (kd sh)) (hok:aG prs sh) (hn:aJ xs (kd sh)=none) (hl:xs.length<1000) (hr:w.reg p=some sh):LS P0 w0 K C CL prs w U O (upd H d (bT P0 w0 d (xs++[(kd sh,a,p)]))) ls dx d B (xs++[(kd sh,a,p)]):=by
 have hkk:∀ b o,b≠d->H b=some o->upd H d (bT P0 w0 d (xs++[(kd sh,a,p)])) b=some o:=λb o n e=>(Yh n).trans e
 have tk:Wf H (upd H d (bT P0 w0 d (xs++[(kd sh,a,p)]))):=Wp hkk L.hd.at_ (by intro xs z;cases z) (by intro o v z;cases z);obtain ⟨vs,hB,_⟩:=L.hb;refine ⟨hkk _ _ (Xw L.hl L.hd.at_ (by intro z;cases z)) L.hl,L.hb.cB tk λo e=>hkk _ _ (Xw hB L.hd.at_ (by intro z;cases z)) e,L.hd.put hk hn hl,L.bi.keep λb o hb e=>hkk b o (λz=>L.nd (by rw [<- z];exact hb)) e,L.nd,L.nl,λe he=>?_,L.bk,L.ob,L.M2⟩;rcases bg.mp he with he | he
 ·exact L.keys e he
 ·have:=Ξ.mp he
  subst this;exact ⟨sh,rfl,hok,hr⟩
theorem LS.bh (L:LS P0 w0 K C CL prs w U O H ls dx d B xs) {a p:Addr} {sh:Sh} (hk:DK K H a (kd sh)) (hok:aG prs sh) (hl:xs.length<1000) (hr:w.reg p=some sh):LS P0 w0 K C CL prs w U O (upd H d (bT P0 w0 d (L2.bh xs (kd sh) a p))) ls dx d B (L2.bh xs (kd sh) a p):=by
 have hkk:∀ b o,b≠d->H b=some o->upd H d (bT P0 w0 d (L2.bh xs (kd sh) a p)) b=some o:=λb o n e=>(Yh n).trans e
 have tk:Wf H (upd H d (bT P0 w0 d (L2.bh xs (kd sh) a p))):=Wp hkk L.hd.at_ (by intro xs z;cases z) (by intro o v z;cases z);obtain ⟨vs,hB,_⟩:=L.hb;refine ⟨hkk _ _ (Xw L.hl L.hd.at_ (by intro z;cases z)) L.hl,L.hb.cB tk λo e=>hkk _ _ (Xw hB L.hd.at_ (by intro z;cases z)) e,L.hd.bh hk hl,L.bi.keep λb o hb e=>hkk b o (λz=>L.nd (by rw [<- z];exact hb)) e,L.nd,L.nl,λe he=>?_,L.bk,L.ob,L.M2⟩;rcases YeP he with he | ⟨h1,h2⟩
 ·exact L.keys e he
 ·exact ⟨sh,h1,hok,by rw [h2];exact hr⟩
theorem LS.opened (L:LS P0 w0 K C CL prs w U O H ls dx d B xs) (s:Yj H H') {p eY c:Addr} {x:List Nat} (hx:H p=none) (hc:H c=none) (hok:aG prs (.use x)) (h3:H' p=some (.ins C.use eY (mf c (fU .non)))) (h4:H' c=some (.lst [])) :
  LS P0 w0 K C CL prs (w.add p (.use x) [c]) (Ua U [c] [p]) (λr=>O r\/r=p) H' ls dx d B xs/\WG w (w.add p (.use x) [c]) U (Ua U [c] [p]) H/\(w.add p (.use x) [c]).reg p=some (.use x):=by
 have nU:∀ {b:Addr},H b=none->¬ U b:=λe z=>L.bi.al _ z e
 have N:New H H' U p [c] [p]:=by
  refine ⟨λb hb=>?_,.head _,by simp,λb hb hb'=>?_,λb o _ e=>s _ _ e,λb hb=>?_⟩
  ·rcases hb with hb | hb
   ·rw [Ξ.mp hb];exact nU hc
   ·rw [Ξ.mp hb];exact nU hx
  ·have e1:=Ξ.mp hb
   have e2:=Ξ.mp hb';rw [<- e1,e2,h3] at h4
   cases h4
  ·rcases hb with hb | hb
   ·rw [Ξ.mp hb,h4];intro z;cases z
   ·rw [Ξ.mp hb,h3];intro z;cases z
 have h0:∀ b,b∈[c]\/b∈[p]->H b=none:=λb hb=>by
  rcases hb with hb | hb
  ·rw [Ξ.mp hb];exact hc
  ·rw [Ξ.mp hb];exact hx
 have G:=N.wg L.bi (.use x) h0;have nd:∀ {z:Addr} {o:HO},H z=some o->¬ (z=c\/z=p):=λe h=>by
  rcases h with h | h
  ·rw [h,hc] at e;cases e
  ·rw [h,hx] at e;cases e
 have bi:BI C (w.add p (.use x) [c]) (Ua U [c] [p]) (λr=>O r\/r=p) H':=N.bi L.bi (λr hr=>⟨λz=>z.resolve_right hr,.inl⟩) (λz=>absurd (.inr rfl) z) (λ_=>⟨x,eY,c,rfl,N.un L.bi _ (.head _),λs' hs=>by rw [L.bk];exact uG L.ob hok (by simp [wt]) hs,h3,N.dat _ (i:=0) rfl,h4⟩);have out:∀ {z:Addr} {o:HO},H z=some o->¬ U z->¬ Ua U [c] [p] z:=λe hU h=>by
  rcases h with h | h | h
  ·exact hU h
  ·exact nd e (.inl (Ξ.mp h))
  ·exact nd e (.inr (Ξ.mp h))
 refine ⟨⟨s _ _ L.hl,L.hb.cB (Wn s) λo e=>s _ _ e,L.hd.keep (Wn s) (s _ _ L.hd.at_),bi,out L.hd.at_ L.nd,out L.hl L.nl,λe he=>?_,L.bk,L.ob,L.M2⟩,G,if_pos rfl⟩;obtain ⟨s',h1,h2,h3⟩:=L.keys e he;exact ⟨s',h1,h2,G.reg _ _ h3⟩
end
theorem YgU {xs:Dx} {d:Ζ} {a p:Addr} (hn:aJ xs d=none):Mo xs (xs++[(d,a,p)]):=λe h=>by
 rw [WO _ _ _ _ _ hn]
 split
 ·intro z;cases z
 ·exact h
theorem Ygc {xs:Dx} {d:Ζ} {a p:Addr}:Mo xs (L2.bh xs d a p):=λe h=>by
 rw [Q0]
 split
 ·intro z;cases z
 ·exact h
theorem Yeb (c:Addr) (v v':V):YT "named" v' (mf c (fU v))=mf c (fU v'):=by
 show YT "named" v' [(("counts":Str),V.ref c),(("named":Str),v)]=_
 simp only [YT,if_neg (n1 (a:=("counts":Str)) (b:=("named":Str)) (by decide +kernel))];rfl
theorem JN {k:Nat} {Z1 Z9 Z3 Z2 Z5 Z6 Z4 Z7 Z0:Addr} (R:g.aD Z9 "add_use" "Lister.add_use" yF ["self","shape"]) (nH:g.Fn k "shape_of" ["book","name"] (JB g.K)) (pG:g.Me k Z9 "maker_of" ["self","shape"] (jY g.P g.w g.K (Cs.mk Z0 Z4 Z5 Z6 Z2 Z3 Z1 Z7) Z9 m)) {cV:Nat} (Z4T:g.Ma cV "UseMaker" Z7 ["self"] (Jq (Cs.mk Z0 Z4 Z5 Z6 Z2 Z3 Z1 Z7))) (ou:cV+1<=k) (ZH:Cls g.K Z9) (ZJ:Yf g.K Z9 "book") (Zu:Yf g.K Z9 "makers") (Ze:Cls g.K Z7) (Zv:Yf g.K Z7 "counts") (Zn:Yf g.K Z7 "named"):g.Me (k+1) Z9 "add_use" ["self","shape"] (uF g.P g.w g.K (Cs.mk Z0 Z4 Z5 Z6 Z2 Z3 Z1 Z7) Z9 (m+1)):=by
 refine R.me GJ (λvs H Q E h=>by obtain ⟨prs,w,U,O,ls,dx,d,B,a,x,xs,rfl,L,hk,hok,hno,fO,hl1,hl8,q⟩:=h;rfl) λf_ cdv A outer s H vs Q E hr h=>?_
 obtain ⟨prs,w,U,O,ls,dx,d,B,a,x,xs,rfl,L,hk,hok,hno,fO,hl1,hl8,q⟩:=h;refine ⟨_,(Ye (Yp (i:=2) GJ.nd rfl (.inl rfl) (YgI Z4T hr (by omega) (by rfl) (by rfl) (by decide))) (Ye (YeI hr (Yv (pv 0) rfl) (pv 1) (pv 2) rfl) (Yi (Y8 (pv 2) (Xx pG ZH hr (pv 0) (Ya (Yz nH hr (Ya (Yv (pv 0) rfl) (Ya (Yr YC (pv 1) Yg) Yd))) Yd)) rfl)))),?_⟩;walk_at "rd";intro p eY gp gdx hne;refine ⟨p,eY,rfl,Yc,λc H1 hc sb h3 h4=>⟨rfl,?_⟩⟩;have s1:=Xy gp gdx sb;have ju:=Y3 (Y3 hc);obtain ⟨L1,G1,hr1⟩:=L.opened (x:=x) s1 gp ju hok h3 h4;have pI:=hk.keep s1;have L2:=L1.put pI hok hno (by omega) hr1;have d7:cD d H (upd H1 d (bT g.P g.w d (xs++[(kd (.use x),a,p)]))):=λb o hb e=>by rw [Yh hb];exact s1 _ _ e
 have dk2:=W4 hk d7 L.hd.at_;have hkd:=dk2.den;rw [kd] at hkd
 obtain ⟨v,hT2,hv⟩:=Wj hkd;have:=XF hv;subst this;have hok':=hok;rw [aG] at hok'
 obtain ⟨q0,pJ⟩:=hok';obtain ⟨eb,hm0⟩:=QJ pJ;have JQ:Mo xs (xs++[(kd (.use x),a,p)]):=YgU hno;have less:=Yga JQ ⟨q0,pJ⟩ hno (by rw [WO _ _ _ _ _ hno,if_pos rfl];intro z;cases z);unfold Gm;walk_at "rd";refine ⟨_,_,_,L1.hl,ZH,Zu,_,X8 _ _,d,rfl,xs,L1.hd,kd (.use x),pI,hno,by omega,?_⟩;refine ⟨_,_,L2.hl,Qj _ _ (by decide +kernel) (by decide +kernel),_,_,_,L2.hl,ZH,ZJ,_,Yf9 _ _,_,hT2,_,Yo (j:=1) rfl,prs,B,x,q0,rfl,L2.hb,pJ,λb dkb=>?_⟩;have hw0:=L.ob.wt q0 hm0;have hd0:=L.ob.dp q0 hm0;have hM:=L2.M2;refine ⟨prs,_,_,_,ls,dx,d,B,b,q0.2,_,rfl,L2,dkb,L.ob.ok q0 hm0,by rw [hM];exact hd0,by omega,by rw [Μ,av];omega,by omega,λq' H3 w3 U3 xs3 L3 G3 tD hr3 Oa JR=>?_⟩;have np:p≠d:=λz=>by rw [z,L.hd.at_] at gp;cases gp
 have z9:¬ O p:=λz=>by
  obtain ⟨_,_,_,_,h,_⟩:=L.bi.op p z;exact L.bi.al _ h.2 gp
 have hg3:=G3.reg _ _ hr1;obtain ⟨afg,c',hp3,L4⟩:=L3.close (p:=p) (q:=q') (x:=x) (O:=O) (λr hr'=>⟨λz=>z.resolve_right hr',.inl⟩) (.inr rfl) z9 hg3 (by rw [L3.bk,eb];exact hr3) (Ym L.hl gp);refine ⟨_,_,_,hp3,Ze,Zn,Xs (show 2<=3 by decide),?_⟩;rw [Yeb];refine q _ w3 U3 xs3 L4 (G1.trans G3 λz hz=>?_) (λz o hz e=>?_) (JR _ (by rw [WO _ _ _ _ _ hno,if_pos rfl];intro z;cases z)) ?_ (JQ.trans JR)
 ·intro e
  exact hz (L2.back d7 e)
 ·rw [Yh (Ym e gp)]
  exact tD _ _ hz (d7 _ _ hz e)
 ·rw [Μ,av] at Oa
  omega
theorem Ygd {K:Ι} {H:Hp} {a:Addr} {sh:Sh} (h:Den K H (.ref a) (kd sh)):∃ r,aH K H a (.str (uz (kd sh))::r):=by
 obtain ⟨ds,hd⟩:=Qh sh;have hm:∃ r,ds = .str (uz (kd sh))::r:=by
  cases sh<;>(rw [kd] at hd ⊢;injection hd with hd;exact ⟨_,hd.symm⟩)
 obtain ⟨r,rfl⟩:=hm;rw [hd] at h
 obtain ⟨b,vs,e,h1,h2⟩:=Xd h;have:=V.ref.inj e;subst this;obtain ⟨u,r',rfl,h3,_⟩:=YH h2;have:=XF h3;subst this;exact ⟨r',h1⟩
theorem JT {k:Nat} {Z1 Z9 Z3 Z2 Z5 Z6 Z4 Z7 Z0:Addr} (R:g.aD Z9 "maker_of" "Lister.maker_of" yE ["self","shape"]) (Z5I:g.Me k Z9 "add_use" ["self","shape"] (uF g.P g.w g.K (Cs.mk Z0 Z4 Z5 Z6 Z2 Z3 Z1 Z7) Z9 m)) (Z57:g.Me k Z9 "new_maker" ["self","shape"] (iV g.P g.w g.K (Cs.mk Z0 Z4 Z5 Z6 Z2 Z3 Z1 Z7) Z9 m)) (ZH:Cls g.K Z9) (ZJ:Yf g.K Z9 "book") (Zu:Yf g.K Z9 "makers"):g.Me (k+1) Z9 "maker_of" ["self","shape"] (jY g.P g.w g.K (Cs.mk Z0 Z4 Z5 Z6 Z2 Z3 Z1 Z7) Z9 (m+1)):=by
 refine R.me Z55 (λvs H Q E h=>by obtain ⟨prs,w,U,O,ls,dx,d,B,a,sh,xs,rfl,L,hk,hok,hdp,cH,fO,hnm,q⟩:=h;rfl) λf_ cdv A outer s H vs Q E hr h=>?_
 obtain ⟨prs,w,U,O,ls,dx,d,B,a,sh,xs,rfl,L,hk,hok,hdp,cH,fO,hnm,q⟩:=h;refine ⟨_,(Ye (YF (Yq (YcQ hr) (pv 1) (Yv (pv 0) rfl) rfl) (Yi (YF (Yq YK (Yr YC (pv 1) Yg) YM (Ys _)) (Yi (YY (Xx Z5I ZH hr (pv 0) (Ya (pv 1) Yd)))) (Yi (YeQ hr (Yv (pv 0) rfl) (pv 1) (Xx Z57 ZH hr (pv 0) (Ya (pv 1) Yd)) rfl)))) Yw) (Yi (Yn (YeH hr (Yv (pv 0) rfl) (pv 1) (λ_ _=>rfl))))),?_⟩;walk_at "rd";refine ⟨_,_,_,L.hl,ZH,Zu,_,X8 _ _,d,rfl,xs,L.hd,kd sh,hk,?_⟩;have wp:=Vo sh
 cases hlk:aJ xs (kd sh) with
 | some p =>
  refine Y6 (by simp) ?_;unfold Qg;walk_at "rd";exact ⟨_,_,_,L.hl,ZH,Zu,_,X8 _ _,d,rfl,xs,L.hd,kd sh,hk,p,hlk,q p H w U xs L (.refl _ _ _) (λ_ _ _ e=>e) (L.reg hok hlk) (by omega) (.refl _)⟩
 | none =>
  refine We rfl ?_;obtain ⟨r,hT⟩:=Ygd hk.den;refine ⟨_,hT,_,Yo (j:=0) rfl,YA _ _,?_⟩;by_cases c:∃ x,sh = .use x
  ·obtain ⟨x,rfl⟩:=c
   have e6:wt (.use x)=1:=by simp [wt]
   have e7:dep (.use x)=0:=by simp [dep]
   refine We (by rw [kd];rfl) ⟨_,_,L.hl,Qj _ _ (by decide +kernel) (by decide +kernel),prs,w,U,O,ls,dx,d,B,a,x,xs,rfl,L,hk,hok,hlk,by omega,by omega,by omega,λH' w' U' xs' L' G' fr' hl' hlen nk=>?_⟩;unfold Qg;walk_at "rd";obtain ⟨p,hp⟩:=Option.ne_none_iff_exists'.mp hl';exact ⟨_,_,_,L'.hl,ZH,Zu,_,X8 _ _,d,rfl,xs',L'.hd,kd (.use x),W4 hk fr' L.hd.at_,p,hp,q p H' w' U' xs' L' G' fr' (L'.reg hok hp) (by omega) nk⟩
  ·have hki:kind sh≠5:=by
    cases sh with
    | use x=>exact absurd ⟨x,rfl⟩ c
    | _=>simp [kind]
   refine Y6 (λz=>c ?_) ?_
   ·have z:=V.str.inj z
    cases sh with
    | use x=>exact ⟨x,rfl⟩
    | _=>exact absurd z (by simp only [kd,uz];decide +kernel)
   ·unfold Gw
    walk_at "rd";refine ⟨_,_,L.hl,Qj _ _ (by decide +kernel) (by decide +kernel),prs,w,U,O,ls,dx,d,B,a,sh,xs,rfl,L,hk,hok,hki,hdp,cH,fO,by omega,λp H1 w1 U1 xs1 L1 G1 bA hr1 hl1 eO=>?_⟩;have pI:=W4 hk bA L.hd.at_;have LL:=L1.bh pI hok (by omega) hr1;have d7:cD d H (upd H1 d (bT g.P g.w d (_root_.L2.bh xs1 (kd sh) a p))):=λb o hb e=>by rw [Yh hb];exact bA _ _ hb e
    have JV:Mo xs1 (_root_.L2.bh xs1 (kd sh) a p):=Ygc;have hnn:=QK (prs:=prs) JV;have hpl:=YeO xs1 (kd sh) a p;refine ⟨_,_,_,L1.hl,ZH,Zu,_,X8 _ _,d,a,xs1,kd sh,p,rfl,rfl,rfl,L1.hd,pI,by omega,?_⟩;unfold Qg;walk_at "rd";refine ⟨_,_,_,LL.hl,ZH,Zu,_,X8 _ _,d,rfl,_,LL.hd,kd sh,W4 hk d7 L.hd.at_,p,by rw [Q0,if_pos rfl],q p _ w1 U1 _ LL G1 d7 hr1 (by omega) (eO.trans JV)⟩
def MW (C:Cs) (prs:aU) (M:Nat) (H H':Hp) (p:Addr) (sh:Sh):Prop:=∃ (w:Wo) (U:Addr->Prop),WI C w (t0 U) H'/\w.reg p=some sh/\w.bk=aF prs/\w.M=M/\Yj H H'/\∀ b,U b->H b=none
inductive JW (K:Ι) (C:Cs) (vs:List V) (H:Hp) (Q:VK) (E_:XK):Prop
 | mk (prs:aU) (B a:Addr) (sh:Sh) (h0:vs=[.ref B,.ref a]) (h1:UO K H B prs) (h2:DK K H a (kd sh)) (h3:aG prs sh) (h4:iU prs) (h5:wt sh<=24) (h6:dep sh<=2) (h7:∀ p H',MW C prs 2 H H' p sh->Q (.ref p) H')
theorem YaZ {k:Nat} {Z1 Z9 Z3 Z2 Z5 Z6 Z4 Z7 Z0:Addr} (R:g.Raw "maker_for" "maker_for" xP ["book","shape"]) {dI:Nat} (Z5n:g.Ma dI "Lister" Z9 ["self","book"] (Jz g.P g.w Z9)) (qT:dI+1<=k) (pG:g.Me k Z9 "maker_of" ["self","shape"] (jY g.P g.w g.K (Cs.mk Z0 Z4 Z5 Z6 Z2 Z3 Z1 Z7) Z9 60)) (ZH:Cls g.K Z9) (ZJ:Yf g.K Z9 "book") (Zu:Yf g.K Z9 "makers"):g.Fn (k+1) "maker_for" ["book","shape"] (JW g.K (Cs.mk Z0 Z4 Z5 Z6 Z2 Z3 Z1 Z7)):=by
 refine R.fn YaI (λvs H Q E h=>by obtain ⟨prs,B,a,sh,rfl,hB,hk,hok,ob,cH,hdp,q⟩:=h;rfl) λf_ cdv A outer s H vs Q E hr h=>?_
 obtain ⟨prs,B,a,sh,rfl,hB,hk,hok,ob,cH,hdp,q⟩:=h;refine ⟨_,(Yi (Yn (Xx pG ZH hr (WM Z5n hr (Ya (pv 0) Yd)) (Ya (pv 1) Yd)))),?_⟩;walk_at "rd";intro ls Ad gl gdl hne;refine ⟨ls,Ad,.ref B,rfl,Yc,λd H1 gd sb h1 h2=>⟨rfl,_,_,h1,Qj _ _ (by decide +kernel) (by decide +kernel),?_⟩⟩;have s1:=Xy gl gdl sb;have gd':=Y3 (Y3 gd);have hnn:=CV (prs:=prs) (xs:=[]);have hpl:=ob.len;have bi:BI (Cs.mk Z0 Z4 Z5 Z6 Z2 Z3 Z1 Z7) ⟨aF prs,λ_=>none,λ_=>none,2⟩ (λ_=>False) (λ_=>False) H1:=⟨λp s' h=>(by cases h),λp h=>h.elim,λb h=>h.elim,λb x h=>(by cases h),λb q i h=>(by cases h),λb b' x h=>(by cases h)⟩;have L1:LS g.P g.w g.K (Cs.mk Z0 Z4 Z5 Z6 Z2 Z3 Z1 Z7) Z9 prs ⟨aF prs,λ_=>none,λ_=>none,2⟩ (λ_=>False) (λ_=>False) H1 ls Ad d B []:=⟨h1,hB.cB (Wn s1) λo e=>s1 _ _ e,YdR h2,bi,λz=>z,λz=>z,λe he=>(by cases he),rfl,ob,rfl⟩;refine ⟨prs,_,_,_,ls,Ad,d,B,a,sh,[],rfl,L1,hk.keep s1,hok,hdp,by omega,by rw [il];omega,by omega,λp H2 w2 U2 xs2 L2 G2 d7 hr2 _ _=>q p H2 ⟨w2,U2,L2.bi.wi λ_ h=>h,hr2,L2.bk,G2.M,λb o e=>d7 _ _ (Ym e gd') (s1 _ _ e),λb hb=>?_⟩⟩;rcases G2.u2 b hb with z | z
 ·exact z.elim
 ·exact s1.free z
def aK:List (Int×Int)->Int->Nat×Int×Int
 | [],n=>(0,n,0)
 | p::ps,n=>if p.1*p.2<=n then ((aK ps (n - p.1*p.2)).1+1,(aK ps (n - p.1*p.2)).2) else (0,n / p.2,n%p.2)
def jw (pl:Nat) (c r:Int):List (Str×V):=[("place",.int pl),("choice",.int c),("rest",.int r)]
inductive JX (C:Addr) (vs:List V) (H:Hp) (Q:VK) (E_:XK):Prop
 | mk (p dx:Addr) (pl:Nat) (c r:Int) (h0:vs=[.ref p,.int pl,.int c,.int r]) (h1:H p=some (.ins C dx [])) (h2:∀ H',SameBut p H H'->H' p=some (.ins C dx (jw pl c r))->Q .non H')
theorem Ob:¬ (("place":Str)="choice"):=by decide +kernel
theorem Oc:¬ (("place":Str)="rest"):=by decide +kernel
theorem Od:¬ (("choice":Str)="rest"):=by decide +kernel
theorem Yge (pl:Nat) (c r:Int):YT "rest" (.int r) (YT "choice" (.int c) (YT "place" (.int pl) []))=jw pl c r:=by
 simp only [YT,if_neg Ob,if_neg Oc,if_neg Od];rfl
theorem Z5o {Zl:Addr} (R:g.bB "Found" Zl "Found.__init__" zB ["self","place","choice","rest"]) (ZL:Cls g.K Zl) (ZG:Yf g.K Zl "place") (ZI:Yf g.K Zl "choice") (ZT:Yf g.K Zl "rest"):g.Ma (1) "Found" Zl ["self","place","choice","rest"] (JX Zl):=by
 refine R.ma Z5j (λvs H Q E h=>by obtain ⟨p,dx,pl,c,r,rfl,hp,q⟩:=h;rfl) λf_ cdv A outer s H vs Q E hr h=>?_
 obtain ⟨p,dx,pl,c,r,rfl,hp,q⟩:=h;refine ⟨_,(Ye (Y8 (pv 0) (pv 1) rfl) (Ye (Y8 (pv 0) (pv 2) rfl) (Yi (Y8 (pv 0) (pv 3) rfl)))),?_⟩;walk_at "rd";refine ⟨_,dx,_,hp,ZL,ZG,by decide,_,dx,_,Yc,ZL,ZI,Xs (Ο (Xl _ _ _) (show 1<=3 by decide)),_,dx,_,Yc,ZL,ZT,Xs (Ο (Xl _ _ _) (b4 (Ο (Xl _ _ _) (show 1<=2 by decide)))),?_⟩;refine q _ (λx o hx h=>by rw [Yh hx,Yh hx,Yh hx];exact h) ?_;rw [Yc];exact congrArg some (congrArg (HO.ins _ _) (Yge pl c r))
structure big (a b:Int):Prop where
 ex:∃ N:Nat,N<=8999/\a.natAbs<2^N/\b.natAbs<2^N
def Xj (ps:List (Int×Int)):Int:=(ps.map λp=>p.1*p.2).sum
theorem WF (p:Int×Int) (ps:List (Int×Int)):Xj (p::ps)=p.1*p.2+Xj ps:=by simp [Xj]
theorem QM {α:Type} {ps:List α} {i:Nat} {p:α} (h:ps[i]?=some p):ps.drop i=p::ps.drop (i+1):=by
 obtain ⟨hi,e⟩:=Η.mp h;rw [List.drop_eq_getElem_cons hi,e]
inductive uH (K:Ι) (C:Addr) (vs:List V) (H:Hp) (Q:VK) (E_:XK):Prop
 | mk (D:Addr) (ps:List (Int×Int)) (n:Int) (h0:vs=[.ref D,.int n]) (h1:Blk H D ps) (h2:ps.length<=1000) (h3:(∀ p∈ps,big p.1 p.2)) (h4:(∀ p∈ps,0<=p.1/\0<=p.2)) (h5:0<=n) (h6:n<Xj ps) (h7:∀ f dx H',Yj H H'->H f=none->H' f=some (.ins C dx (jw (aK ps n).1 (aK ps n).2.1 (aK ps n).2.2))->Q (.ref f) H')
theorem Ybo {k:Nat} {Zl:Addr} (R:g.Raw "found_in" "found_in" xM ["blocks","number"]) {d9:Nat} (Z5J:g.Ma d9 "Found" Zl ["self","place","choice","rest"] (JX Zl)) (sE:d9+1<=k):g.Fn (k+1) "found_in" ["blocks","number"] (uH g.K Zl):=by
 refine R.fn lU (λvs H Q E h=>by obtain ⟨D,ps,n,rfl,⟨xs,hD,fO,hxp⟩,hl,hb,hp,h0,hn,q⟩:=h;rfl) λf_ cdv A outer s H vs Q E hr h=>?_
 obtain ⟨D,ps,n,rfl,⟨xs,hD,fO,hxp⟩,hl,hb,hp,h0,hn,q⟩:=h;refine ⟨_,(Ye (Yp (i:=2) lU.nd rfl (.inl rfl) Yg) (Ye (Yp (i:=3) lU.nd rfl (.inl rfl) (pv 1)) (Ye (WW ai (Yq Cv (pv 3) (Yl XD (Yr YC (Yr YQ (pv 0) (pv 2)) Yg) (Yr YC (Yr YQ (pv 0) (pv 2)) Yg)) (Ys _)) (Ye (US (i:=3) lU.nd rfl (.inl rfl) (Yl XD (Yr YC (Yr YQ (pv 0) (pv 2)) Yg) (Yr YC (Yr YQ (pv 0) (pv 2)) Yg)) vL) (Yi (US (i:=2) lU.nd rfl (.inl rfl) Yg O5)))) (Ye (Yp (i:=4) lU.nd rfl (.inl rfl) (Yr YC (Yr YQ (pv 0) (pv 2)) Yg)) (Yi (Yn (WM Z5J hr (Ya (pv 2) (Ya (Yl Y1 (pv 3) (pv 4)) (Ya (Yl Xg (pv 3) (pv 4)) Yd)))))))))),?_⟩;walk_at "rd";refine X4 (α:=Nat×Int) (λx σ H'=>σ=[some (.ref D),some (.int n),some (.int (x.1:Nat)),some (.int x.2),none]/\H=H'/\0<=x.2/\x.2<Xj (ps.drop x.1)/\aK ps n=(x.1+(aK (ps.drop x.1) x.2).1,(aK (ps.drop x.1) x.2).2)/\x.1<=ps.length) (λx=>decide ((ps.getD x.1 (0,0)).1*(ps.getD x.1 (0,0)).2<=x.2)) (λx=>ps.length - x.1) (0,n) ⟨rfl,rfl,h0,hn,by simp,ι _⟩ ?_ ?_ ?_
 ·rintro ⟨i,l⟩ σ H' ⟨rfl,rfl,g0,g1,g2,g3⟩ R r
  dsimp only at g0 g1 g2 g3;have hi:i<ps.length:=by
   rcases Nat.lt_or_ge i ps.length with c | c
   ·exact c
   ·rw [bt c] at g1;simp [Xj] at g1;omega
  have hpi:ps[i]?=some ps[i]:=Ε hi;have hxi:xs[i]?=some (xs[i]'(by omega)):=Ε _;obtain ⟨T,eT,hT⟩:=hxp i _ _ hxi hpi;obtain ⟨N,b0,b1,b2⟩:=(hb _ (Τ hpi)).ex;have rr:=r H ⟨rfl,rfl,g0,g1,g2,g3⟩;have eg:ps.getD i (0,0)=ps[i]:=by rw [ae,hpi];rfl
  dsimp only at rr;rw [eg] at rr
  walk_at "rd";exact ⟨_,ao.of hD,_,Yo hxi,T,eT,_,aH.of hT,_,rfl,_,ao.of hD,_,Yo hxi,T,eT,_,aH.of hT,_,rfl,_,rfl,_,rfl,.inl (cm b1 b2 (by omega)),rr⟩
 ·rintro ⟨i,l⟩ σ H' ⟨rfl,rfl,g0,g1,g2,g3⟩ hcond
  dsimp only at g0 g1 g2 g3;have hi:i<ps.length:=by
   rcases Nat.lt_or_ge i ps.length with c | c
   ·exact c
   ·rw [bt c] at g1;simp [Xj] at g1;omega
  have hpi:ps[i]?=some ps[i]:=Ε hi;have hxi:xs[i]?=some (xs[i]'(by omega)):=Ε _;obtain ⟨T,eT,hT⟩:=hxp i _ _ hxi hpi;obtain ⟨N,b0,b1,b2⟩:=(hb _ (Τ hpi)).ex;have eg:ps.getD i (0,0)=ps[i]:=by rw [ae,hpi];rfl
  have j5:=QM hpi;dsimp only at hcond;rw [eg,decide_eq_true_iff] at hcond
  rw [j5,WF] at g1
  rw [j5,aK,if_pos hcond] at g2
  walk_at "rd";refine ⟨_,ao.of hD,_,Yo hxi,T,eT,_,aH.of hT,_,rfl,_,ao.of hD,_,Yo hxi,T,eT,_,aH.of hT,_,rfl,_,rfl,_,rfl,.inl (cm b1 b2 (by omega)),(i+1,l - ps[i].1*ps[i].2),by simp,rfl,by dsimp only;omega,by dsimp only;omega,?_,hi,by dsimp only;omega⟩;rw [g2];dsimp only;rw [show i+((aK (ps.drop (i+1)) (l - ps[i].1*ps[i].2)).1+1)=i+1+(aK (ps.drop (i+1)) (l - ps[i].1*ps[i].2)).1 by omega]
 ·rintro ⟨i,l⟩ σ H' ⟨rfl,rfl,g0,g1,g2,g3⟩ hcond
  dsimp only at g0 g1 g2 g3;have hi:i<ps.length:=by
   rcases Nat.lt_or_ge i ps.length with c | c
   ·exact c
   ·rw [bt c] at g1;simp [Xj] at g1;omega
  have hpi:ps[i]?=some ps[i]:=Ε hi;have hxi:xs[i]?=some (xs[i]'(by omega)):=Ε _;obtain ⟨T,eT,hT⟩:=hxp i _ _ hxi hpi;obtain ⟨N,b0,b1,b2⟩:=(hb _ (Τ hpi)).ex;have eg:ps.getD i (0,0)=ps[i]:=by rw [ae,hpi];rfl
  have j5:=QM hpi;dsimp only at hcond;rw [eg,decide_eq_false_iff_not] at hcond
  rw [j5,aK,if_neg hcond] at g2
  have hp2:0<ps[i].2:=by
   rcases gt (hp _ (Τ hpi)).2 with c | c
   ·exact c
   ·rw [<- c,i7] at hcond;omega
  walk_at "rd";refine ⟨_,ao.of hD,_,Yo hxi,T,eT,_,aH.of hT,_,rfl,_,rfl,⟨hp2,τ b2 (em (by decide) (Ο b0 (by decide)))⟩,_,rfl,hp2,λf dx hf hdx hne=>⟨f,dx,i,_,_,rfl,Yc,λH' sb h=>⟨rfl,q f dx H' (Xy hf hdx sb) hf ?_⟩⟩⟩;rw [g2];exact h
theorem JZ:∀ (ps:List (Int×Int)) (n:Int),0<=n->n<Xj ps->(∀ p∈ps,0<=p.1/\0<=p.2)->∃ p,ps[(aK ps n).1]?=some p/\0<=(aK ps n).2.2/\(aK ps n).2.2<p.2
 | [],n,h0,h1,_=>by simp [Xj] at h1;omega
 | p::ps,n,h0,h1,hp=>by
  rw [WF] at h1
  by_cases c:p.1*p.2<=n
  ·obtain ⟨q,g1,g2,g3⟩:=JZ ps (n - p.1*p.2) (by omega) (by omega) λq hq=>hp q (.tail _ hq)
   rw [aK,if_pos c];exact ⟨q,by simpa using g1,g2,g3⟩
  ·rw [aK,if_neg c]
   have h2:0<p.2:=by
    rcases gt (hp p (.head _)).2 with z | z
    ·exact z
    ·rw [<- z,i7] at c;omega
   exact ⟨p,rfl,d3 _ (by omega),gu _ h2⟩
theorem Ae:∀ (ps:List (Int×Int)) (n:Int),0<=n->n<Xj ps->(∀ p∈ps,0<=p.1/\0<=p.2)->∃ p,ps[(aK ps n).1]?=some p/\0<=(aK ps n).2.1/\(aK ps n).2.1<p.1
 | [],n,h0,h1,_=>by simp [Xj] at h1;omega
 | p::ps,n,h0,h1,hp=>by
  rw [WF] at h1
  by_cases c:p.1*p.2<=n
  ·obtain ⟨q,g1,g2,g3⟩:=Ae ps (n - p.1*p.2) (by omega) (by omega) λq hq=>hp q (.tail _ hq)
   rw [aK,if_pos c];exact ⟨q,by simpa using g1,g2,g3⟩
  ·rw [aK,if_neg c]
   have h2:0<p.2:=by
    rcases gt (hp p (.head _)).2 with z | z
    ·exact z
    ·rw [<- z,i7] at c;omega
   exact ⟨p,rfl,Int.ediv_nonneg h0 (by omega),Int.ediv_lt_of_lt_mul h2 (by omega)⟩
theorem J0:∀ (Bs:List (Int×Int)) (r:Int),0<=r->r<Xj Bs->(∀ p∈Bs,0<=p.1/\0<=p.2)->∃ b,Bs[(aK Bs r).1]?=some b/\r=Xj (Bs.take (aK Bs r).1)+((aK Bs r).2.1*b.2+(aK Bs r).2.2)/\0<=(aK Bs r).2.1/\(aK Bs r).2.1<b.1/\0<=(aK Bs r).2.2/\(aK Bs r).2.2<b.2
 | [],r,h0,h1,_=>by simp [Xj] at h1;omega
 | p::Bs,r,h0,h1,hp=>by
  rw [WF] at h1
  by_cases c:p.1*p.2<=r
  ·obtain ⟨b,g1,g2,g3⟩:=J0 Bs (r - p.1*p.2) (by omega) (by omega) λq hq=>hp q (.tail _ hq)
   rw [aK,if_pos c];refine ⟨b,by simpa using g1,?_,g3⟩;rw [fS,WF];dsimp only;omega
  ·rw [aK,if_neg c]
   have h2:0<p.2:=by
    rcases gt (hp p (.head _)).2 with z | z
    ·exact z
    ·rw [<- z,i7] at c;omega
   refine ⟨p,rfl,?_,Int.ediv_nonneg h0 (by omega),Int.ediv_lt_of_lt_mul h2 (by omega),d3 _ (by omega),gu _ h2⟩
   show r=0+(r / p.2*p.2+r%p.2)
   rw [i6,Int.ediv_mul_add_emod]
theorem J1 {α:Type}:∀ (Ls:List (List α)) (i k:Nat) (L:List α),Ls[i]?=some L->k<L.length->Ls.flatten[((Ls.take i).map ix).sum+k]?=L[k]?
 | [],i,k,L,h,_=>by simp at h
 | M::Ls,0,k,L,h,hk=>by
  cases Γ h
  rw [List.flatten_cons];simp only [eC,eI,List.sum_nil,Nat.zero_add];exact aw hk
 | M::Ls,i+1,k,L,h,hk=>by
  have ih:=J1 Ls i k L (by simpa using h) hk;rw [fS,aa,ef,List.flatten_cons,gN,az (Nat.le_add_right _ _),Nat.add_sub_cancel_left];exact ih
theorem YeW {α:Type} {Bs:List (Int×Int)} {Ls:List (List α)} (hl:Ls.length=Bs.length) (hb:∀ (i:Nat) b L,Bs[i]?=some b->Ls[i]?=some L->(L.length:Int)=b.1*b.2) {r:Int} (h0:0<=r) (h1:r<Xj Bs) (hp:∀ p∈Bs,0<=p.1/\0<=p.2):∃ b L,Bs[(aK Bs r).1]?=some b/\Ls[(aK Bs r).1]?=some L/\Ls.flatten[r.toNat]?=L[((aK Bs r).2.1*b.2+(aK Bs r).2.2).toNat]?/\0<=(aK Bs r).2.1/\(aK Bs r).2.1<b.1/\0<=(aK Bs r).2.2/\(aK Bs r).2.2<b.2:=by
 obtain ⟨b,g1,g2,g3,g4,g5,g6⟩:=J0 Bs r h0 h1 hp;have hi:=(Η.mp g1).1;have gL:Ls[(aK Bs r).1]?=some (Ls[(aK Bs r).1]'(by omega)):=Ε _;refine ⟨b,_,g1,gL,?_,g3,g4,g5,g6⟩;have len:=hb _ b _ g1 gL;have tl:∀ i,i<=Bs.length->Xj (Bs.take i)=((((Ls.take i).map ix).sum:Nat):Int):=λi=>by
  induction i with
  | zero=>intro _;rfl
  | succ i ih =>
   intro hi;have e1:Bs[i]?=some (Bs[i]'(by omega)):=Ε _;have e2:Ls[i]?=some (Ls[i]'(by omega)):=Ε _;have:=hb i _ _ e1 e2;have ih:=ih (by omega);rw [Y4 e1,Y4 e2,a8,List.sum_append];simp only [Xj,a8,List.sum_append,aa,eI,ef,List.sum_nil] at ih ⊢;omega
 have t:=tl _ (ic hi);have m0:0<=(aK Bs r).2.1*b.2:=Int.mul_nonneg g3 (by omega);have hk:((aK Bs r).2.1*b.2+(aK Bs r).2.2).toNat<(Ls[(aK Bs r).1]'(by omega)).length:=by
  have:(aK Bs r).2.1*b.2+(aK Bs r).2.2<b.1*b.2:=by
   have:((aK Bs r).2.1+1)*b.2<=b.1*b.2:=Int.mul_le_mul_of_nonneg_right (by omega) (by omega);rw [Int.add_mul,Int.one_mul] at this
   omega
  omega
 have e:r.toNat=((Ls.take (aK Bs r).1).map ix).sum+((aK Bs r).2.1*b.2+(aK Bs r).2.2).toNat:=by omega
 rw [e];exact J1 Ls _ _ _ gL hk
theorem J2 {α β γ:Type} {g:α->β->γ} {A:Nat->List α} {B:Nat->List β} {n:Nat} {Bs:List (Int×Int)} (hB:Bs=(η n).map λf=>(((A f).length:Int),((B f).length:Int))) {r:Int} (h0:0<=r) (h1:r<Xj Bs):(aK Bs r).1<n/\0<=(aK Bs r).2.1/\(aK Bs r).2.1<(A (aK Bs r).1).length/\0<=(aK Bs r).2.2/\(aK Bs r).2.2<(B (aK Bs r).1).length /\
  ∀ a b,(A (aK Bs r).1)[(aK Bs r).2.1.toNat]?=some a->(B (aK Bs r).1)[(aK Bs r).2.2.toNat]?=some b->((η n).flatMap λf=>aZ g (A f) (B f))[r.toNat]?=some (g a b):=by
 have at_:∀ {i:Nat} {b:Int×Int},Bs[i]?=some b->i<n/\b=(((A i).length:Int),((B i).length:Int)):=λ{i b} h=>by
  rw [hB,Λ] at h
  obtain ⟨f,hf,rfl⟩:=ε.mp h;have hi:=(Η.mp hf).1;rw [aS] at hi
  rw [aI hi] at hf
  cases hf
  exact ⟨hi,rfl⟩
 obtain ⟨b,L,e1,e2,e3,e4,e5,e6,e7⟩:=YeW (Ls:=(η n).map λf=>aZ g (A f) (B f)) (by rw [hB,Β,Β]) (λi b L hb hL=>by
  obtain ⟨hi,rfl⟩:=at_ hb;rw [Λ,aI hi] at hL
  cases Γ hL
  rw [XZ,eS]) h0 h1 (λp hp=>by
  obtain ⟨i,hi⟩:=List.getElem?_of_mem hp;obtain ⟨_,rfl⟩:=at_ hi;exact ⟨fc _,fc _⟩)
 obtain ⟨hi,rfl⟩:=at_ e1;rw [Λ,aI hi] at e2
 cases Γ e2
 refine ⟨hi,e4,e5,e6,e7,λa b ha hb=>?_⟩;rw [List.flatMap_def,e3];have:=zG (g:=g) hb ha;rw [<- this]
 congr 1
 generalize aK Bs r=fd at e4 e6;obtain ⟨i,c,e⟩:=fd;dsimp only at e4 e6 ⊢;obtain ⟨c',rfl⟩:=eM e4;obtain ⟨e',rfl⟩:=eM e6;rw [<- eS,<- dS,bm,bm,bm]
mutual
inductive VO (D:Addr->Option (Addr×Nat)) (H:Hp):V->Ζ->List Addr->Prop
 | int (i:Int):VO D H (.int i) (.int i) []
 | str (x:Str) (h:bc x=true):VO D H (.str x) (.str x) []
 | tup {a:Addr} {vs:List V} {ds:List Ζ} {L:List Addr}:D a=none->H a=some (.tup vs)->vs.length<=10000->bC D H vs ds L->VO D H (.ref a) (.tuple ds) L
 | lst {a:Addr} {vs:List V} {ds:List Ζ} {L:List Addr}:D a=none->H a=some (.lst vs)->vs.length<=10000->bC D H vs ds L->VO D H (.ref a) (.list ds) (a::L)
inductive bC (D:Addr->Option (Addr×Nat)) (H:Hp):List V->List Ζ->List Addr->Prop
 | nil:bC D H [] [] []
 | cons {v:V} {d:Ζ} {L:List Addr} {vs:List V} {ds:List Ζ} {L':List Addr}:VO D H v d L->bC D H vs ds L'->bC D H (v::vs) (d::ds) (L++L')
end
section
 variable {D:Addr->Option (Addr×Nat)} {H H' H0 H1 H2:Hp}
mutual
theorem VO.keep {N:Addr->Prop} (h1:∀ a o,D a=none->(∀ us,o = .lst us->N a)->H a=some o->H' a=some o):∀ {v:V} {d:Ζ} {L:List Addr},VO D H v d L->(∀ a∈L,N a)->VO D H' v d L
 | _,_,_,.int i,_ => .int i
 | _,_,_,.str x h,_ => .str x h
 | _,_,_,.tup k1 k2 k3 k4,n => .tup k1 (h1 _ _ k1 (λus z=>by cases z) k2) k3 (bC.keep h1 k4 n)
 | _,_,_,.lst k1 k2 k3 k4,n => .lst k1 (h1 _ _ k1 (λus _=>n _ (.head _)) k2) k3 (bC.keep h1 k4 λa ha=>n a (.tail _ ha))
theorem bC.keep {N:Addr->Prop} (h1:∀ a o,D a=none->(∀ us,o = .lst us->N a)->H a=some o->H' a=some o):∀ {vs:List V} {ds:List Ζ} {L:List Addr},bC D H vs ds L->(∀ a∈L,N a)->bC D H' vs ds L
 | _,_,_,.nil,_ => .nil
 | _,_,_,.cons a b,n => .cons (VO.keep h1 a λx hx=>n x (fF _ hx)) (bC.keep h1 b λx hx=>n x (ψ _ hx))
end
mutual
theorem VO.dl:∀ {v:V} {d:Ζ} {L:List Addr},VO D H v d L->DL H v d L
 | _,_,_,.int i => .int i
 | _,_,_,.str x h => .str x h
 | _,_,_,.tup _ k2 k3 k4 => .tup k2 k3 (bC.dl k4)
 | _,_,_,.lst _ k2 k3 k4 => .lst k2 k3 (bC.dl k4)
theorem bC.dl:∀ {vs:List V} {ds:List Ζ} {L:List Addr},bC D H vs ds L->bH H vs ds L
 | _,_,_,.nil => .nil
 | _,_,_,.cons a b => .cons (VO.dl a) (bC.dl b)
end
theorem bC.app {vs':List V} {ds':List Ζ} {L':List Addr}:∀ {vs:List V} {ds:List Ζ} {L:List Addr},bC D H vs ds L->bC D H vs' ds' L'->bC D H (vs++vs') (ds++ds') (L++L')
 | _,_,_,.nil,h=>h
 | _,_,_,.cons a b,h=>by rw [bu];exact .cons a (b.app h)
theorem VO.one {v:V} {d:Ζ} {L:List Addr} (h:VO D H v d L):bC D H [v] [d] L:=by
 have:=bC.cons h .nil
 rwa [a4] at this
def Af (D:Addr->Option (Addr×Nat)) (H H':Hp):Prop:=∀ b o,D b=none->H b=some o->H' b=some o
theorem bC.fr (f:Af D H H') {v:List V} {d:List Ζ} {L:List Addr} (h:bC D H v d L):bC D H' v d L:=h.keep (N:=λ_=>True) (λa o n _ e=>f a o n e) λ_ _=>trivial
theorem YeX {X:Addr} {zs:List V} {o':HO} (hX:H X=some (.lst zs)):∀ a o,D a=none->(∀ us,o = .lst us->a≠X)->H a=some o->upd H X o' a=some o:=λa o _ n e=>by
 by_cases c:a=X
 ·subst c
  rw [hX] at e
  exact absurd rfl (n _ (Γ e).symm)
 ·rw [Yh c];exact e
structure VW (D:Addr->Option (Addr×Nat)) (H0 H:Hp) (v:V) (d:Ζ) (L:List Addr):Prop where
 vl:VO D H v d L
 nd:L.Nodup
 new:∀ a∈L,H0 a=none
structure dB (D:Addr->Option (Addr×Nat)) (H0 H:Hp) (vs:List V) (ds:List Ζ) (L:List Addr):Prop where
 vl:bC D H vs ds L
 nd:L.Nodup
 new:∀ a∈L,H0 a=none
theorem dB.fr (f:Af D H H') {v:List V} {d:List Ζ} {L:List Addr} (h:dB D H0 H v d L):dB D H0 H' v d L:=⟨h.1.fr f,h.2,h.3⟩
theorem dB.nil:dB D H0 H [] [] []:=⟨.nil,.nil,λ_ h=>by cases h⟩
mutual
theorem VO.there:∀ {v:V} {d:Ζ} {L:List Addr},VO D H v d L->∀ a∈L,H a≠none
 | _,_,_,.tup _ _ _ k4,a,ha=>bC.there k4 a ha
 | _,_,_,.lst _ k2 _ k4,a,ha=>by
  rcases Φ.mp ha with e | ha
  ·rw [e,k2];intro z;cases z
  ·exact bC.there k4 a ha
theorem bC.there:∀ {vs:List V} {ds:List Ζ} {L:List Addr},bC D H vs ds L->∀ a∈L,H a≠none
 | _,_,_,.cons a b,x,hx=>by
  rcases bg.mp hx with h | h
  ·exact VO.there a x h
  ·exact bC.there b x h
end
theorem dB.put {vs:List V} {ds:List Ζ} {L L':List Addr} {y:V} {d:Ζ} {X:Addr} {zs:List V} {o':HO} (h:dB D H0 H1 vs ds L) (hX:X∉L) (f:Af D H1 H2) (o:VW D H1 H2 y d L') (h1:H1 X≠none) (h2:H2 X=some (.lst zs)) (a0:∀ a,H1 a=none->H0 a=none):dB D H0 (upd H2 X o') (vs++[y]) (ds++[d]) (L++L')/\X∉L++L':=by
 have hX':X∉L':=λz=>h1 (o.new _ z)
 have hX2:X∉L++L':=λz=>by
  rcases bg.mp z with z | z
  ·exact hX z
  ·exact hX' z
 refine ⟨⟨((h.vl.fr f).app o.vl.one).keep (N:=λa=>a≠X) (YeX h2) λa ha e=>hX2 (by rw [<- e];exact ha),List.nodup_append.mpr ⟨h.nd,o.nd,λa ha b hb e=>?_⟩,λa ha=>?_⟩,hX2⟩
 ·subst e
  exact h.vl.there a ha (o.new a hb)
 ·rcases bg.mp ha with ha | ha
  ·exact h.new a ha
  ·exact a0 a (o.new a ha)
theorem dB.lst {vs:List V} {ds:List Ζ} {L:List Addr} {X:Addr} (h:dB D H0 H vs ds L) (hD:D X=none) (hX:H X=some (.lst vs)) (hn:vs.length<=10000) (n:X∉L) (h0:H0 X=none):VW D H0 H (.ref X) (.list ds) (X::L):=⟨.lst hD hX hn h.vl,cS.mpr ⟨n,h.nd⟩,λa ha=>by
 rcases Φ.mp ha with e | ha
 ·rw [e];exact h0
 ·exact h.new a ha⟩
theorem dB.tup {vs:List V} {ds:List Ζ} {L:List Addr} {X:Addr} (h:dB D H0 H vs ds L) (hD:D X=none) (hX:H X=none) (hn:vs.length<=10000):VW D H0 (upd H X (.tup vs)) (.ref X) (.tuple ds) L:=⟨.tup hD Yc hn (h.vl.fr λb o _ e=>by rw [Yh (Ym e hX)];exact e),h.nd,h.new⟩
end
structure VQ (C:Cs) (w:Wo) (t:Sw) (H:Hp) (prs:aU) (p:Addr) (sh:Sh) (s:Nat) (r:Int):Prop where
 W:WI C w t H
 rg:w.reg p=some sh
 ob:iU prs
 bk:w.bk=aF prs
 ok:aG prs sh
 wt:wt sh<=24
 M:w.M=2
 cn:s<t.ns p
 bO:s<=5
 r0:0<=r
 r1:r<cnt w.bk sh s
 rd:∀ p sh,w.reg p=some sh->f9 t p
def Ag (C:Cs) (w:Wo) (t:Sw) (H:Hp) (sh:Sh) (s:Nat) (r:Int) (Q:VK):Prop:=∀ v d L t' H',Tr C w t H t' H' 6 0->VW w.D H H' v d L->(en w.bk sh s)[r.toNat]?=some d->Q v H'
inductive aW (C:Cs) (k l:Nat) (vs:List V) (H:Hp) (Q:VK) (E_:XK):Prop
 | mk (w:Wo) (t:Sw) (prs:aU) (p:Addr) (sh:Sh) (s:Nat) (r:Int) (h0:vs=[.ref p,.int (s:Nat),.int r]) (h1:kind sh=k) (h2:VQ C w t H prs p sh s r) (h3:3*s+dep sh+1<=l) (h4:Ag C w t H sh s r Q)
theorem YE {C:Cs} {k:Nat} {vs:List V} {H:Hp} {Q:VK} {E:XK} (h:aW C k 0 vs H Q E):False:=by
 obtain ⟨w,t,prs,p,sh,s,r,_,_,_,h,_⟩:=h;omega
theorem Tr.free {C:Cs} {w:Wo} {t t':Sw} {H H':Hp} {s d:Nat} (T:Tr C w t H t' H' s d) {b:Addr} (h:H' b=none):H b=none:=by
 cases e:H b with
 | none=>rfl
 | some o=>exact absurd h (T.alloc e)
variable {m:Nat}
theorem J3 {k:Nat} {Z1 Z3 Z2 Z5 Z6 Z4 Z7 Z0:Addr} (R:g.aD Z0 "value_at" "WholeMaker.value_at" yK ["self","size","number"]) (zN:g.Fn k "least_distance" ["size"] (m9)) (Z8:Cls g.K Z0) (Zg:Yf g.K Z0 "counts") (ZE:Yf g.K Z0 "low") (Zz:Yf g.K Z0 "span"):g.Me (k+1) Z0 "value_at" ["self","size","number"] (aW (Cs.mk Z0 Z4 Z5 Z6 Z2 Z3 Z1 Z7) 0 (m+1)):=by
 refine R.me Z3v (λvs H Q E h=>by obtain ⟨w,t,prs,p,sh,sz,r,rfl,hk,vq,hl,q⟩:=h;rfl) λf_ cdv A outer s H vs Q E hr h=>?_
 obtain ⟨w,t,prs,p,sh,sz,r,rfl,hk,vq,hl,q⟩:=h;refine ⟨_,(Yi (Yn (Yl YW (Yl YW (Yv (pv 0) rfl) (Yz zN hr (Ya (pv 1) Yd))) (pv 2)))),?_⟩
 cases sh with
 | w lo span =>
  obtain ⟨dx,c,fs,hU,hd,hsm,hns,hp,bQ,hc,hsub⟩:=vq.W.at_ p _ vq.rg;have hsub:fs=fW lo span:=hsub;subst hsub;have bO:=vq.bO;have r0:=vq.r0;have r1:=vq.r1;rw [Hg] at r1
  walk_at "rd";refine ⟨_,_,_,hp,Z8,ZE,_,rfl,_,rfl,by omega,_,rfl,_,rfl,q _ _ [] t H (.refl vq.W _ _) ⟨.int _,.nil,λ_ h=>by cases h⟩ ?_⟩;rw [pq,Λ,aI (by omega),dQ,Int.toNat_of_nonneg r0]
 | _=>cases hk
abbrev Uh (C:Cs) (l:Nat):List (Addr×Sp):=[(C.w,aW C 0 l),(C.t,aW C 1 l),(C.row,aW C 2 l),(C.pick,aW C 3 l),(C.many,aW C 4 l),(C.alike,aW C 6 l),(C.use,aW C 5 l)]
theorem YeY (C:Cs) (l:Nat) (sh:Sh):(Uc C sh,aW C (kind sh) l)∈Uh C l:=by
 cases sh with
 | w lo span=>exact .head _
 | t sg=>exact .tail _ (.head _)
 | row ps=>exact .tail _ (.tail _ (.head _))
 | pick mk ps=>exact .tail _ (.tail _ (.tail _ (.head _)))
 | many q=>exact .tail _ (.tail _ (.tail _ (.tail _ (.head _))))
 | alike q n=>exact .tail _ (.tail _ (.tail _ (.tail _ (.tail _ (.head _)))))
 | use x=>exact .tail _ (.tail _ (.tail _ (.tail _ (.tail _ (.tail _ (.head _))))))
theorem WT {C:Cs} {w:Wo} {t:Sw} {H:Hp} {prs:aU} {a:Addr} {sh:Sh} {l sz:Nat} {r:Int} {Q:VK} (V:VQ C w t H prs a sh sz r) (hf:3*sz+dep sh+1<=l) (q:Ag C w t H sh sz r Q):iu (Uh C l) H a "value_at" λsp=>sp [.ref a,.int (sz:Nat),.int r] H Q E0:=by
 obtain ⟨dx,c,fs,hU,hd,hsm,hns,hp,bQ,hc,hsub⟩:=V.W.at_ a sh V.rg;exact ⟨_,_,YeY C l sh,dx,_,hp,Wi (by decide +kernel) hsub,w,t,prs,a,sh,sz,r,rfl,rfl,V,hf,q⟩
theorem J4 {k:Nat} {Z1 Z3 Z2 Z5 Z6 Z4 Z7 Z0:Addr} (R:g.aD Z7 "value_at" "UseMaker.value_at" zA ["self","size","number"]) (aY:g.dw k "value_at" ["self","size","number"] (Uh (Cs.mk Z0 Z4 Z5 Z6 Z2 Z3 Z1 Z7) (m))) (Ze:Cls g.K Z7) (Zv:Yf g.K Z7 "counts") (Zn:Yf g.K Z7 "named"):g.Me (k+1) Z7 "value_at" ["self","size","number"] (aW (Cs.mk Z0 Z4 Z5 Z6 Z2 Z3 Z1 Z7) 5 (m+1)):=by
 refine R.me Z4g (λvs H Q E h=>by obtain ⟨w,t,prs,p,sh,sz,r,rfl,hk,vq,hl,q⟩:=h;rfl) λf_ cdv A outer s H vs Q E hr h=>?_
 obtain ⟨w,t,prs,p,sh,sz,r,rfl,hk,vq,hl,q⟩:=h;refine ⟨_,(Yi (Yn (XE aY hr (Yv (pv 0) rfl) (Ya (Yl Y2 (pv 1) Yg) (Ya (pv 2) Yd))))),?_⟩
 cases sh with
 | use x =>
  obtain ⟨dx,c,fs,hU,hd,hsm,hns,hp,bQ,hc,hsub⟩:=vq.W.at_ p _ vq.rg;obtain ⟨a,e,hga,hcn⟩:=hsub;have e:fs=fU (.ref a):=e;subst e;have hcn:t.ns p - 1<=t.ns a:=hcn;have hok:=vq.ok;rw [aG] at hok
  obtain ⟨q0,pJ⟩:=hok;obtain ⟨eb,hm0⟩:=QJ pJ;have e0:w.bk x=q0.2:=by rw [vq.bk];exact eb
  have h1:=vq.r1;have h0:=vq.r0;have hc1:=vq.cn;have bO:=vq.bO;obtain ⟨j,rfl⟩:∃ j,sz=j+1:=⟨sz - 1,by
   cases sz with
   | zero=>rw [Hj] at h1;omega
   | succ j=>rfl⟩
  rw [Hl] at h1
  have hdp:=vq.ob.dp q0 hm0;have VA:VQ (Cs.mk Z0 Z4 Z5 Z6 Z2 Z3 Z1 Z7) w t H prs a (w.bk x) j r:=⟨vq.W,hga,vq.ob,vq.bk,by rw [e0];exact vq.ob.ok q0 hm0,by rw [e0];exact vq.ob.wt q0 hm0,vq.M,by omega,by omega,h0,h1,vq.rd⟩;have hd2:dep (w.bk x)<=2:=by rw [e0];exact hdp
  walk_at "rd";rw [show ((j+1:Nat):Int) - 1=(j:Int) by omega];refine ⟨_,_,_,hp,Ze,Zn,_,Ih _ _,a,rfl,?_⟩;exact WT VA (by omega) λv d L t' H' T1 hv hva=>q v d L t' H' T1 hv (by rw [V9];exact hva)
 | _=>cases hk
theorem YeZ (c M P:Addr):(mf c (fP M P)).lookup ("marks":Str)=some (.ref M):=by
 unfold mf fP;rw [Υ,show (("marks":Str)==("counts":Str))=false by decide +kernel,Υ,show (("marks":Str)==("marks":Str))=true by decide +kernel]
theorem J5 {i:Int} {n:Nat} (h0:0<=i) (h:i<=2^n):i.natAbs<2^(n+1):=by
 have e:(2:Int)^n=((2^n:Nat):Int):=by norm_cast
 rw [e] at h
 rw [Nat.pow_succ];have:0<2^n:=Nat.pow_pos (by decide);omega
theorem Ah {i j:Int} {n m:Nat} (h0:0<=i) (h:i<=2^n) (g0:0<=j) (g:j<=2^m) (hn:n<=8990) (hm:m<=8990):big i j :=
 ⟨8991,by decide,τ (J5 h0 h) (em (by decide) (by omega)),τ (J5 g0 g) (em (by decide) (by omega))⟩
theorem Yed (f:Sh->Int) (ps:List Sh):Xj (ps.map λp=>(f p,1))=(ps.map f).sum:=by
 unfold Xj;rw [bn]
 congr 1
 exact a5 λp _=>Int.mul_one _
theorem J6 {bk:List Nat->Sh} {s:Nat} {p:Sh} {m:List Nat} {d:Ζ}:∀ {ps:List Sh} {mk:List (List Nat)} {r:Int},0<=r->mk.length=ps.length->ps[(aK (ps.map λp=>(cnt bk p s,(1:Int))) r).1]?=some p->mk[(aK (ps.map λp=>(cnt bk p s,(1:Int))) r).1]?=some m->(en bk p s)[(aK (ps.map λp=>(cnt bk p s,(1:Int))) r).2.1.toNat]?=some d->(bW bk mk ps s)[r.toNat]?=some (.tuple [.str (S m),d])
 | q::ps,m0::mk,r,h0,hl,h1,h2,h3=>by
  rw [aa,aK] at h1 h2 h3
  rw [XJ];by_cases c:cnt bk q s*1<=r
  ·rw [if_pos c] at h1 h2 h3
   have e:cnt bk q s=((en bk q s).length:Int):=rfl;have ih:=J6 (ps:=ps) (mk:=mk) (r:=r - cnt bk q s*1) (by omega) (by simpa using hl) (by simpa using h1) (by simpa using h2) h3;rw [az (by rw [Β];omega),Β,show r.toNat - (en bk q s).length=(r - cnt bk q s*1).toNat by omega];exact ih
  ·rw [if_neg c] at h1 h2 h3
   have e:cnt bk q s=((en bk q s).length:Int):=rfl
   cases Γ h1
   cases Γ h2
   rw [gg] at h3
   rw [aw (by rw [Β];omega),Λ,h3];rfl
 | [],_,_,_,_,h,_,_=>by simp [aK] at h
theorem J7 {k:Nat} {Z1 Zl Z3 Z2 Z5 Z6 Z4 Z7 Z0:Addr} (R:g.aD Z2 "value_at" "PickMaker.value_at" za ["self","size","number"]) (pK:g.Fn k "found_in" ["blocks","number"] (uH g.K Zl)) (zR:g.Me k Z2 "blocks_at" ["self","size"] (pC (Cs.mk Z0 Z4 Z5 Z6 Z2 Z3 Z1 Z7) 91)) (aY:g.dw k "value_at" ["self","size","number"] (Uh (Cs.mk Z0 Z4 Z5 Z6 Z2 Z3 Z1 Z7) (m))) (ZL:Cls g.K Zl) (ZG:Yf g.K Zl "place") (ZI:Yf g.K Zl "choice") (ZT:Yf g.K Zl "rest") (Zb:Cls g.K Z2) (Zp:Yf g.K Z2 "counts") (Zs:Yf g.K Z2 "marks") (Zm:Yf g.K Z2 "parts"):g.Me (k+1) Z2 "value_at" ["self","size","number"] (aW (Cs.mk Z0 Z4 Z5 Z6 Z2 Z3 Z1 Z7) 3 (m+1)):=by
 refine R.me GR (λvs H Q E h=>by obtain ⟨w,t,prs,p,sh,sz,r,rfl,hk,vq,hl,q⟩:=h;rfl) λf_ cdv A outer s H vs Q E hr h=>?_
 obtain ⟨w,t,prs,p,sh,sz,r,rfl,hk,vq,hl,q⟩:=h;refine ⟨_,(Ye (Yp (i:=3) GR.nd rfl (.inl rfl) (Yz pK hr (Ya (Xx zR Zb hr (pv 0) (Ya (pv 1) Yd)) (Ya (pv 2) Yd)))) (Yi (Yn (Y9 (Ya (Yr YQ (Yv (pv 0) rfl) (Yv (pv 3) rfl)) (Ya (XE aY hr (Yr YQ (Yv (pv 0) rfl) (Yv (pv 3) rfl)) (Ya (pv 1) (Ya (Yv (pv 3) rfl) Yd))) Yd)))))),?_⟩
 cases sh with
 | pick mk ps =>
  obtain ⟨dx,c,fs,hU,hd,hsm,hns,hp,bQ,hc,hsub⟩:=vq.W.at_ p _ vq.rg;have hno:=λ{m:Str} (h:isF m=false)=>Wi (c:=c) h hsub
  obtain ⟨M,P,as,rfl,h2,h3,h4,h5,h6,h7⟩:=hsub;have hdr:dep (.pick mk ps)=YG ps+1:=by rw [dep]
  have hok:=vq.ok;rw [aG] at hok
  obtain ⟨hml,hpl,j6,hstr⟩:=hok;have bO:=vq.bO;have hcn:=vq.cn;have hM:=vq.M;have cH:=vq.wt;rw [wt] at cH
  have cb:∀ p∈ps,0<=cnt w.bk p sz/\cnt w.bk p sz<=2^(300*sz+(12*wt p - 6))/\wt p<=24:=λp' hp'=>by
   have h1:=zT hp';rw [vq.bk];have:=Ue prs vq.ob p' sz (by omega) (Wu j6 hp') (by omega);exact ⟨this.1,this.2,by omega⟩
  have nn:∀ x∈ps.map (λp=>(cnt w.bk p sz,(1:Int))),0<=x.1/\0<=x.2:=λx hx=>by
   obtain ⟨p',hp',rfl⟩:=ar.mp hx;exact ⟨(cb p' hp').1,(by decide:(0:Int)<=1)⟩
  have hr1:=vq.r1;rw [Hi,<- Yed (λp=>cnt w.bk p sz)] at hr1
  obtain ⟨x,e1,e2,e3⟩:=Ae _ r vq.r0 hr1 nn;have pat:=λ(p0:Sh) (m0:List Nat) (d0:Ζ)=>J6 (bk:=w.bk) (s:=sz) (p:=p0) (m:=m0) (d:=d0) (ps:=ps) (mk:=mk) (r:=r) vq.r0 hml
  generalize hfn:aK (ps.map λp=>(cnt w.bk p sz,(1:Int))) r=fd at e1 e2 e3 pat;rw [Λ] at e1
  obtain ⟨p',hp',rfl⟩:=ε.mp e1;have hi:=(Η.mp hp').1;have hmk:mk[fd.1]?=some (mk[fd.1]'(by omega)):=Ε _;generalize mk[fd.1]'(by omega)=Ai at hmk;have hal:=h6.1;have hai:as[fd.1]?=some (as[fd.1]'(by omega)):=Ε _;generalize as[fd.1]'(by omega)=a at hai;have hga:=h6.2 fd.1 a p' hai hp';have hdp:dep p'<=YG ps:=X5 (Τ hp');refine WC λR rr=>?_
  walk_at "rd";refine ⟨_,_,hp,hno (by decide +kernel),w,t,p,mk,ps,sz,rfl,vq.W,vq.rg,by omega,by omega,by unfold fu;rw [hM];omega,λp' sh' hr' _=>vq.rd p' sh' hr',λD t1 H1 T1 gD cN hB hpc=>?_⟩;refine ⟨D,_,r,rfl,hB,by rw [Β];omega,λx hx=>?_,nn,vq.r0,hr1,λf J8 H2 s2 gf hf=>rr _ _ ?_⟩
  ·obtain ⟨p2,hp2,rfl⟩:=ar.mp hx
   obtain ⟨c1,c2,c3⟩:=cb p2 hp2;exact Ah (m:=0) c1 c2 (by decide:(0:Int)<=1) (by decide:(1:Int)<=2^0) (by omega) (by decide)
  ·rw [hfn] at hf
   have T2:=T1.same s2;have hp2:=T2.fr _ _ hU.1 hp;have VA:VQ (Cs.mk Z0 Z4 Z5 Z6 Z2 Z3 Z1 Z7) w t1 H2 prs a p' sz fd.2.1:=⟨T2.wi,hga,vq.ob,vq.bk,Wu j6 (Τ hp'),(cb p' (Τ hp')).2.2,vq.M,hpc a ⟨dx,c,M,P,as,hp,h5,Τ hai⟩,bO,e2,e3,λp' sh' hr'=>(T2.gr p' sh' hr').un (vq.rd p' sh' hr')⟩;walk_at "rd";refine ⟨_,_,_,hp2,Zb,Zs,_,YeZ _ _ _,_,_,_,hf,ZL,ZG,_,rfl,M,rfl,_,rfl,_,ao.of (T2.fr _ _ h2.1 h4),_,Yo (by rw [Λ,hmk];rfl),?_⟩;refine ⟨_,_,_,hp2,Zb,Zm,_,Q3 _ _ _,_,_,_,hf,ZL,ZG,_,rfl,P,rfl,_,rfl,_,ao.of (T2.fr _ _ h3.1 h5),_,Yo (by rw [Λ,hai];rfl),a,rfl,?_⟩;refine (WT (l:=m) VA (by omega) λv d L t3 H3 T3 hv hva=>?_).map λsp h=>⟨_,_,_,hf,ZL,ZI,_,rfl,h⟩
   refine ⟨few (by decide),λX gX=>?_⟩;have sX:=Yj.aj gX (.tup [.str (S Ai),v]);have hmo:=hstr _ (Τ hmk);have VS:dB w.D H H3 [.str (S Ai),v] [.str (S Ai),d] L:=⟨.cons (L:=[]) (.str _ hmo) hv.vl.one,hv.nd,λa ha=>T2.free (hv.new a ha)⟩;exact q _ _ L t3 _ (((T2.mono (by omega)).trans T3).same sX) (VS.tup (T3.wi.new gX).1 gX (show 2<=10000 by decide)) (by rw [WR];exact pat _ _ _ hp' hmk hva)
 | _=>cases hk
theorem Vc (pl:Nat) (c r:Int):(jw pl c r).lookup ("place":Str)=some (.int pl):=rfl
theorem Qk (pl:Nat) (c r:Int):(jw pl c r).lookup ("choice":Str)=some (.int c):=by
 unfold jw;rw [Υ,show (("choice":Str)==("place":Str))=false by decide +kernel,Υ,show (("choice":Str)==("choice":Str))=true by decide +kernel]
theorem J9 (pl:Nat) (c r:Int):(jw pl c r).lookup ("rest":Str)=some (.int r):=by
 unfold jw;rw [Υ,show (("rest":Str)==("place":Str))=false by decide +kernel,Υ,show (("rest":Str)==("choice":Str))=false by decide +kernel,Υ,show (("rest":Str)==("rest":Str))=true by decide +kernel]
theorem Yee (c P T:Addr):(mf c (fR P T)).lookup ("parts":Str)=some (.ref P):=by
 unfold mf fR;rw [Υ,show (("parts":Str)==("counts":Str))=false by decide +kernel,Υ,show (("parts":Str)==("parts":Str))=true by decide +kernel]
def iW (bk:List Nat->Sh) (p:Sh) (ps:List Sh) (s:Nat):List (Int×Int):=(η (s+1)).map λf=>(cnt bk p f,YU bk ps (s - f))
theorem Ygf (bk:List Nat->Sh) (p:Sh) (ps:List Sh) (s:Nat):Xj (iW bk p ps s)=YU bk (p::ps) s:=by
 rw [Q1,Xj,iW,bn];rfl
theorem Ql {bk:List Nat->Sh} {p:Sh} {ps:List Sh} {s i:Nat} {x:Int×Int} (h:(iW bk p ps s)[i]?=some x):i<=s/\x=(cnt bk p i,YU bk ps (s - i)):=by
 unfold iW at h;rw [Λ] at h
 obtain ⟨f,hf,rfl⟩:=ε.mp h;have hi:=(Η.mp hf).1;rw [aS] at hi
 rw [aI hi] at hf
 cases hf
 exact ⟨by omega,rfl⟩
inductive RV (C:Cs) (w:Wo) (t:Sw) (H:Hp) (p D:Addr) (ps:List Sh) (sz:Nat) (r:Int) (i:Nat) (σ:St) (H':Hp):Prop
 | mk (o6 o7 o8:Option V) (left:Nat) (YI:Int) (vs:List V) (ds:List Ζ) (t':Sw) (e:σ=[some (.ref p),some (.int (sz:Nat)),some (.int r),some (.ref D),some (.int (left:Nat)),some (.int YI),o6,o7,o8]) (l:vs.length=i) (hd:H' D=some (.lst vs)) (hU:¬ t'.U D) (hl:left<=sz) (r0:0<=YI) (r1:YI<YU w.bk (ps.drop i) left) (T:Tr C w t H t' H' 6 0) (L:List Addr) (hL:D∉L) (v:dB w.D H H' vs ds L) (a:∀ es,(bL w.bk (ps.drop i) left)[YI.toNat]?=some es->(bL w.bk ps sz)[r.toNat]?=some (ds++es))
theorem Ye0 (P L:Addr):(Wr P L).lookup ("blocks_at":Str)=none:=by
 unfold Wr;rw [Υ,show (("blocks_at":Str)==("parts":Str))=false by decide +kernel,Υ,show (("blocks_at":Str)==("ways":Str))=false by decide +kernel];rfl
theorem Ka {k:Nat} {Z1 Zl Z3 Z2 Z5 Z6 Z4 Z7 Z0:Addr} (R:g.aD Z5 "value_at" "RowMaker.value_at" yV ["self","size","number"]) (pK:g.Fn k "found_in" ["blocks","number"] (uH g.K Zl)) (zP:g.Me k Z6 "blocks_at" ["self","place","left"] (pA (Cs.mk Z0 Z4 Z5 Z6 Z2 Z3 Z1 Z7) 91)) (aY:g.dw k "value_at" ["self","size","number"] (Uh (Cs.mk Z0 Z4 Z5 Z6 Z2 Z3 Z1 Z7) (m))) (mj:g.mg "enumerate"=none) (cg:g.mg "tuple"=none) (ZL:Cls g.K Zl) (ZG:Yf g.K Zl "place") (ZI:Yf g.K Zl "choice") (ZT:Yf g.K Zl "rest") (Zf:Cls g.K Z5) (ZD:Yf g.K Z5 "counts") (ZF:Yf g.K Z5 "parts") (ZC:Yf g.K Z5 "table") (Zi:Cls g.K Z6) (Zo:Yf g.K Z6 "parts") (Zh:Yf g.K Z6 "ways"):g.Me (k+1) Z5 "value_at" ["self","size","number"] (aW (Cs.mk Z0 Z4 Z5 Z6 Z2 Z3 Z1 Z7) 2 (m+1)):=by
 refine R.me ZU (λvs H Q E h=>by obtain ⟨w,t,prs,p,sh,sz,r,rfl,hk,vq,hl,q⟩:=h;rfl) λf_ cdv A outer s H vs Q E hr h=>?_
 obtain ⟨w,t,prs,p,sh,sz,r,rfl,hk,vq,hl,q⟩:=h;refine ⟨_,(Ye (Yp (i:=3) ZU.nd rfl (.inl rfl) (YR Yd)) (Ye (Yp (i:=4) ZU.nd rfl (.inl rfl) (pv 1)) (Ye (Yp (i:=5) ZU.nd rfl (.inl rfl) (pv 2)) (Ye (Xp ai rfl (S8 rfl mj (Ya (Yv (pv 0) rfl) Yd) (by rfl)) (VR (n:=2) rfl (Xz (Yu (i:=6) ZU.nd rfl (.inl rfl)) (Xz (Yu (i:=7) ZU.nd rfl (.inl rfl)) Vi))) (Ye (Yp (i:=8) ZU.nd rfl (.inl rfl) (Yz pK hr (Ya (Xx zP Zi hr (Yv (pv 0) rfl) (Ya (pv 6) (Ya (pv 4) Yd))) (Ya (pv 5) Yd)))) (Ye (YY (Wy de eL eK Xm (pv 3) (Ya (XE aY hr (pv 7) (Ya (Yv (pv 8) rfl) (Ya (Yv (pv 8) rfl) Yd))) Yd))) (Ye (US (i:=4) ZU.nd rfl (.inl rfl) (Yv (pv 8) rfl) vL) (Yi (Yp (i:=5) ZU.nd rfl (.inl rfl) (Yv (pv 8) rfl))))))) (Yi (Yn (U6 cg Q9 (Ya (pv 3) Yd)))))))),?_⟩
 cases sh with
 | row ps =>
  obtain ⟨dx,c,fs,hU,hd,hsm,hns,hp,bQ,hc,hsub⟩:=vq.W.at_ p _ vq.rg;obtain ⟨P,T,dt,L,as,ws,rfl,h2,h3,h4,h5,h6,h7,h8,h9,h10,h11,h12⟩:=hsub;have hT:Tb (Cs.mk Z0 Z4 Z5 Z6 Z2 Z3 Z1 Z7) H p T:=⟨dx,c,P,hp⟩;have hdr:dep (.row ps)=YG ps+1:=by rw [dep]
  have hok:=vq.ok;rw [aG] at hok
  obtain ⟨hpl,j6⟩:=hok;have bO:=vq.bO;have hcn:=vq.cn;have hM:=vq.M;have cH:=vq.wt;rw [wt] at cH
  have hr1:=vq.r1;rw [QD] at hr1
  have hal:=h6.1;have hbd:=λ(i s:Nat) (hs:s<=sz)=>Je prs vq.ob (ps.drop i) s (by omega) (UM i j6) (by have:=VJ ps i;omega)
  refine WC λR rr=>?_
  walk_at "rd";refine ⟨few (by decide),λD hD=>rr _ _ ?_⟩;have sD:=Yj.aj hD (.lst []);obtain ⟨dD,uD⟩:=vq.W.new hD;refine WC λR rr=>?_
  walk_at "rd";refine rr _ _ (WC λR rr=>?_);walk_at "rd";refine rr _ _ (WC λR rr=>?_);refine TY (K:=g.K) (a:=P) (xs:=as.map V.ref) (RV (Cs.mk Z0 Z4 Z5 Z6 Z2 Z3 Z1 Z7) w t H p D ps sz r) (λR r'=>by walk_at "rd";exact ⟨_,_,_,sD _ _ hp,Zf,ZF,_,Yee _ _ _,r'⟩) ⟨none,none,none,sz,r,[],[],t,rfl,rfl,Yc,uD,Κ _,vq.r0,hr1,(Tr.refl vq.W _ _).put hD uD _,[],(λh=>by cases h),.nil,λes h=>h⟩ (λi σ H' _ ⟨_,_,_,_,_,_,_,_,_,_,_,_,_,_,_,T1,_,_,_,_⟩=>ao.of (T1.fr _ _ h2.1 h5)) ?_ ?_
  ·rintro i x σ H' X hx ⟨o6,o7,o8,left,YI,vs,ds,t',rfl,hvl,hd',cN,bK,hr0,eE,T1,L,hL,hv,hva⟩ hX
   rw [Λ] at hx
   obtain ⟨a,ha,rfl⟩:=ε.mp hx;have hi:=(Η.mp ha).1;have hsh:ps[i]?=some (ps[i]'(by omega)):=Ε _;generalize ps[i]'(by omega)=sh at hsh;have hga:=h6.2 i a sh ha hsh;have hdp:dep sh<=YG ps:=X5 (Τ hsh);have hws:=zT (Τ hsh);have Aj:=Wu j6 (Τ hsh);have j5:=QM hsh;rw [j5,<- Ygf] at eE
   have Kc:=λ(s:Nat) (hs:s<=sz)=>Ue prs vq.ob sh s (by omega) Aj (by omega)
   have nn:∀ x∈iW w.bk sh (ps.drop (i+1)) left,0<=x.1/\0<=x.2:=λx hx=>by
    obtain ⟨j,hj⟩:=List.getElem?_of_mem hx;obtain ⟨j1,rfl⟩:=Ql hj;rw [vq.bk];exact ⟨(Kc j (by omega)).1,(hbd _ _ (by omega)).1⟩
   obtain ⟨x1,e1,e2,e3⟩:=Ae _ YI hr0 eE nn;obtain ⟨x2,f1,f2,f3⟩:=JZ _ YI hr0 eE nn;generalize hfn:aK (iW w.bk sh (ps.drop (i+1)) left) YI=fd at e1 e2 e3 f1 f2 f3;obtain ⟨e4,rfl⟩:=Ql e1;obtain ⟨_,rfl⟩:=Ql f1;have sX:=Yj.aj hX (.tup [.int (i:Int),.ref a]);have T2:=T1.same sX;have Ak:∀ p' sh',w.reg p'=some sh'->f9 t' p':=λp' sh' hr'=>(T2.gr p' sh' hr').un (vq.rd p' sh' hr')
   obtain ⟨Hq,c2,fs2,uw,_,_,_,hp2,_,_,hsub2⟩:=T2.wi.at_ p _ vq.rg;have hp3:=T2.fr _ _ hU.1 hp;have up:=(T2.gr p _ vq.rg).up;have hms:∀ j,left<t'.ms p j:=λj=>by
    have hu:=Ak p _ vq.rg;obtain ⟨P',T',dt',L',as',ws',_,_,_,_,_,_,_,_,_,g10,g11,_⟩:=hsub2;have hw0:ws'[0]?=some (ws'[0]'(by omega)):=Ε _;have:=(g11 0 _ hw0).2.1;rw [hu j];omega
   have rat:=λ(b:Ζ) (es:List Ζ)=>(J2 (g:=bX) (A:=λf=>en w.bk sh f) (B:=λf=>bL w.bk (ps.drop (i+1)) (left - f)) (n:=left+1) (Bs:=iW w.bk sh (ps.drop (i+1)) left) rfl hr0 eE).2.2.2.2.2 b es
   rw [hfn] at rat
   refine ⟨X,_,rfl,aH.of Yc,rfl,_,_,rfl,_,_,rfl,rfl,WC λR rr=>?_⟩;walk_at "rd";refine ⟨_,_,_,hp3,Zf,ZC,_,Ia _ _ _,T,rfl,_,_,T2.fr _ _ h3.1 h8,Ye0 _ _,w,t',p,T,ps,i,left,sh,rfl,T2.wi,vq.rg,⟨dx,c,P,hp3⟩,hsh,by omega,by omega,λj _=>hms j,by unfold fu;rw [hM];omega,λp' sh' hr' _=>Ak p' sh' hr',λB t3 H3 T3 gB hUB hB hpc=>?_⟩;refine ⟨B,iW w.bk sh (ps.drop (i+1)) left,YI,rfl,hB,by rw [iW,Β,aS];omega,λx hx=>?_,nn,hr0,eE,λf J8 H4 s4 gf hf=>rr _ _ (WC λR rr=>?_)⟩
   ·obtain ⟨j,hj⟩:=List.getElem?_of_mem hx
    obtain ⟨j1,rfl⟩:=Ql hj;rw [vq.bk];have c1:=Kc j (by omega);have c2:=hbd (i+1) (left - j) (by omega);have:=VJ ps (i+1);exact Ah c1.1 c1.2 c2.1 c2.2 (by omega) (by omega)
   ·rw [hfn] at hf
    have T4:=T3.same s4;have mq:=T2.trans (T4.mono (by omega));have lR:=T4.fr _ _ dD (sX _ _ hd');have Oe:=T4.ours cN (sX _ _ hd');have hlt:=hpc a ⟨dx,c,P,T,as,hp3,T2.fr _ _ h2.1 h5,ha⟩;have VA:VQ (Cs.mk Z0 Z4 Z5 Z6 Z2 Z3 Z1 Z7) w t3 H4 prs a sh fd.1 fd.2.1:=⟨T4.wi,hga,vq.ob,vq.bk,Aj,by omega,vq.M,by omega,by omega,e2,e3,λp' sh' hr'=>(T4.gr p' sh' hr').un (Ak p' sh' hr')⟩;walk_at "rd";refine ⟨.inl ⟨rfl,_,ao.of lR⟩,?_⟩;refine (WT (l:=m) VA (by omega) λv d L5 t5 H5 T5 Al sG=>?_).map λsp h=>⟨_,_,_,hf,ZL,ZG,_,Vc _ _ _,_,_,_,hf,ZL,ZI,_,Qk _ _ _,h⟩
    have oW:=T5.fr _ _ dD lR;have Am:=T5.ours Oe lR;refine ⟨_,oW,few (by omega),rr _ _ (WC λR rr=>?_)⟩;have uf:¬ t3.U f:=T3.wi.new gf |>.2
    have pL:=T5.fr _ _ (T3.wi.new gf).1 hf;have nfD:f≠D:=Xw pL oW (by simp);have pN:=(Yh (H:=H5) (o := .lst (vs++[v])) nfD).trans pL;walk_at "rd";refine ⟨_,_,_,pN,ZL,ZG,_,Vc _ _ _,_,rfl,rr _ _ ?_⟩;walk_at "rd";refine ⟨_,_,_,pN,ZL,ZT,_,J9 _ _ _,?_⟩;have hv4:=hv.fr (H':=H4) λb o n e=>T4.fr b o n (sX _ _ e)
    obtain ⟨VS,gW⟩:=hv4.put hL T5.fr Al (by rw [lR];intro z;cases z) oW (o' := .lst (vs++[v])) λa e=>mq.free e
    refine ⟨_,_,_,left - fd.1,fd.2.2,vs++[v],ds++[d],t5,by rw [show (left:Int) - (fd.1:Nat)=((left - fd.1:Nat):Int) by omega],by rw [Μ,hvl];rfl,Yc,Am,by omega,f2,f3,(mq.trans T5).put hD Am _,_,gW,VS,λes he=>?_⟩;rw [bu];refine hva _ ?_;rw [j5,XT];exact rat d es sG he
  ·rintro σ H' ⟨o6,o7,o8,left,YI,vs,ds,t',rfl,hvl,hd',cN,bK,hr0,eE,T1,L,hL,hv,hva⟩
   refine rr _ _ ?_;walk_at "rd";refine ⟨_,.inl ⟨ao.of hd',λX gX=>?_⟩⟩;have sX:=Yj.aj gX (.tup vs);rw [Β] at hva hvl eE
   rw [hal,g9] at hva eE
   rw [Hh] at eE
   have hz:left=0:=by
    by_cases z:left=0
    ·exact z
    ·rw [if_neg z] at eE;omega
   rw [if_pos hz] at eE
   have h1:=hva [] (by rw [X6,if_pos hz,show YI=0 by omega];rfl);rw [a4] at h1
   exact q _ _ L t' _ (T1.same sX) (hv.tup (T1.wi.new gX).1 gX (by omega)) (by rw [W1,Λ,h1];rfl)
 | _=>cases hk
def dg (sg:List Nat):Nat->Int->List Nat
 | 0,_=>[]
 | k+1,n=>sg.getD (n%sg.length).toNat 0::dg sg k (n / sg.length)
theorem V4 (sg:List Nat):∀ k n,(dg sg k n).length=k
 | 0,_=>rfl
 | k+1,n=>by rw [dg,χ,V4]
def mz (m:Int):Nat->Int->Int
 | 0,n=>n
 | k+1,n=>mz m k n / m
theorem Kd (m:Int):∀ k n,mz m (k+1) n=mz m k (n / m)
 | 0,n=>rfl
 | k+1,n=>by rw [mz,Kd m k n];rfl
theorem Ke (sg:List Nat):∀ k n,dg sg (k+1) n=dg sg k n++[sg.getD (mz sg.length k n%sg.length).toNat 0]
 | 0,n=>rfl
 | k+1,n=>by
  rw [dg,Ke sg k (n / sg.length),dg,Kd];rfl
theorem Ao {sg:List Nat} (h:0<sg.length) (n:Int):sg[(n%sg.length).toNat]?=some (sg.getD (n%sg.length).toNat 0):=by
 have h1:0<=n%(sg.length:Int):=d3 _ (by omega);have h2:n%(sg.length:Int)<sg.length:=gu _ (by omega);have hlt:(n%(sg.length:Int)).toNat<sg.length:=by omega
 rw [Ε hlt,ae,Ε hlt];rfl
theorem CW {sg:List Nat} (h:0<sg.length) (n:Int):dG sg (n%sg.length)=some (sg.getD (n%sg.length).toNat 0):=by
 have e:n%(sg.length:Int)=((n%(sg.length:Int)).toNat:Int):=(Int.toNat_of_nonneg (d3 _ (by omega))).symm;have:=Ao h n;rw [e,bm];exact Yo this
theorem Kf {sg:List Nat} (h:0<sg.length):∀ (k:Nat) (n:Int),∀ c∈dg sg k n,c∈sg
 | 0,_,c,hc=>by cases hc
 | k+1,n,c,hc=>by
  rcases Φ.mp hc with e | hc
  ·rw [e];exact Τ (Ao h n)
  ·exact Kf h k _ c hc
theorem Kg {sg:List Nat} (h:0<sg.length):∀ (s:Nat) (j:Int),0<=j->j<(bU sg s).length->(bU sg s)[j.toNat]?=some (dg sg s j).reverse
 | 0,j,h0,h1=>by
  have:j=0:=by simp [bU] at h1;omega
  subst this;rfl
 | s+1,j,h0,h1=>by
  rw [bU,XZ,eS] at h1
  have d0:0<=j / (sg.length:Int):=Int.ediv_nonneg h0 (by omega);have ih:=Kg h s (j / sg.length) d0 (Int.ediv_lt_of_lt_mul (by omega) h1);have:=zG (g:=λ(x:List Nat) (c:Nat)=>x++[c]) (Ao h j) ih;rw [bU,dg,List.reverse_cons,<- this]
  congr 1
  have e:=Int.ediv_mul_add_emod j sg.length;have m0:0<=j%(sg.length:Int):=d3 _ (by omega);obtain ⟨a,ha⟩:=eM d0;obtain ⟨b,hb⟩:=eM m0;rw [ha,hb] at e
  rw [ha,hb,<- e,<- eS,<- dS,bm,bm,bm]
theorem Kh:∀ cs:List Nat,tX [] (cs.map λc=>[c])=cs
 | []=>rfl
 | [c]=>rfl
 | c::d::r=>by
  have:=Kh (d::r);simp only [aa] at this ⊢;rw [tX,this];rfl
theorem Ygg (cs:List Nat):Txt.join ("":Str) (cs.map λc=>S [c])=S cs:=by
 have:=SJ [] (cs.map λc=>[c]);rw [bn,Kh] at this
 exact this
theorem Vq {l:List Nat} (h:∀ c∈l,c<1000):bc (S l)=true:=by
 simp only [bc,S,Array.all_eq_true',decide_eq_true_eq];intro c hc;have:=h c (by simpa using hc);omega
theorem Kl {Z1 Z3 Z2 Z5 Z6 Z4 Z7 Z0:Addr} (R:g.aD Z4 "value_at" "TextMaker.value_at" yN ["self","size","number"]) (au:g.mg "len"=none) (Zj:g.mg "range"=none) (Zd:Cls g.K Z4) (ZA:Yf g.K Z4 "counts") (Zr:Yf g.K Z4 "signs"):g.Me (1) Z4 "value_at" ["self","size","number"] (aW (Cs.mk Z0 Z4 Z5 Z6 Z2 Z3 Z1 Z7) 1 (m+1)):=by
 refine R.me o9 (λvs H Q E h=>by obtain ⟨w,t,prs,p,sh,sz,r,rfl,hk,vq,hl,q⟩:=h;rfl) λf_ cdv A outer s H vs Q E hr h=>?_
 obtain ⟨w,t,prs,p,sh,sz,r,rfl,hk,vq,hl,q⟩:=h;refine ⟨_,(Ye (Yp (i:=3) o9.nd rfl (.inl rfl) (YR Yd)) (Ye (Yp (i:=4) o9.nd rfl (.inl rfl) (pv 2)) (Ye (Xp ai rfl (Y7 rfl Zj (Ya (pv 1) Yd)) (Yu (i:=5) o9.nd rfl (.inl rfl)) (Ye (YY (Wy de eL eK Xm (pv 3) (Ya (Yr Er (Yv (pv 0) rfl) (Yl Xg (pv 4) (YN au WY (Ya (Yv (pv 0) rfl) Yd)))) Yd))) (Yi (Yp (i:=4) o9.nd rfl (.inl rfl) (Yl Y1 (pv 4) (YN au WY (Ya (Yv (pv 0) rfl) Yd))))))) (Ye (YY (RD de PySem.F.slot_list_reverse PySem.F.type_list_reverse RL (pv 3) (by rfl) (by rfl))) (Yi (Yn (Wy PySem.F.plainAttrs_str PySem.F.slot_str_join PySem.F.type_str_join Ss YM (Ya (pv 3) Yd)))))))),?_⟩
 cases sh with
 | t sg =>
  obtain ⟨dx,c,fs,hU,hd,hsm,hns,hp,bQ,hc,hsub⟩:=vq.W.at_ p _ vq.rg;obtain ⟨e,Km⟩:=hsub;subst e;have hok:=vq.ok;rw [aG] at hok
  obtain ⟨h0,_,hck⟩:=hok;have bO:=vq.bO;walk_at "rd";refine ⟨few (by decide),λF gF=>?_⟩;refine XN (n:=sz) (λi σ H'=>∃ o5,σ=[some (.ref p),some (.int sz),some (.int r),some (.ref F),some (.int (mz sg.length i r)),o5]/\Yj H H'/\H' F=some (.lst ((dg sg i r).map λc=>V.str (S [c])))) (λR r=>by walk_at "rd";exact r) (by omega) ⟨_,rfl,.aj gF _,Yc⟩ ?_ ?_
  ·rintro i σ H' hi ⟨o5,rfl,sm,hF⟩
   have hp':=sm _ _ hp;have hpF:p≠F:=Ym hp gF;walk_at "rd";refine ⟨.inl ⟨rfl,_,ao.of hF⟩,_,_,_,hp',Zd,Zr,_,rfl,_,_,_,hp',Zd,Zr,_,rfl,_,rfl,by rw [Xu];exact few (by omega),by rw [Xu];omega,?_⟩;rw [Xu];refine ⟨_,_,_,rfl,rfl,by rw [Xu];exact few (by omega),by rw [WD];exact CW h0 _,_,hF,by rw [Β,V4];exact few (by omega),_,_,_,(Yh hpF).trans hp',Zd,Zr,_,rfl,_,rfl,?_⟩;exact ⟨by rw [Xu];exact few (by omega),by rw [Xu];exact YS (by omega) (by omega),by rw [Xu];rfl,.bV gF sm _,by rw [Yc,Ke,a8];rfl⟩
  ·rintro σ H' ⟨o5,rfl,sm,hF⟩
   walk_at "rd";refine ⟨.inl ⟨rfl,_,ao.of hF⟩,_,hF,rfl,?_⟩;have e1:((dg sg sz r).map λc=>V.str (S [c])).reverse=(dg sg sz r).reverse.map λc=>V.str (S [c]):=by rw [List.map_reverse]
   rw [e1];refine ⟨"",F,(dg sg sz r).reverse.map λc=>S [c],rfl,rfl,by rw [bn];exact ao.of Yc,?_,?_⟩
   ·rw [bn,Β,bz,V4]
    have:((λx:Str=>x.length) ∘ λc=>S [c])=λ_=>1:=by funext c;simp [Xu]
    rw [this,List.map_const',List.sum_replicate_nat,bz,V4];have:("":Str).length=0:=by decide +kernel
    rw [this];omega
   ·rw [Ygg]
    have r1:=vq.r1;rw [cnt,VH,Β] at r1
    exact q _ _ [] t _ ((Tr.refl vq.W _ _).same (.bV gF sm _)) ⟨.str _ (Vq λc hc=>hck c (Kf h0 _ _ c (List.mem_reverse.mp hc))),.nil,λ_ h=>by cases h⟩ (by rw [VH,Λ,Kg h0 sz r vq.r0 r1];rfl)
 | _=>cases hk
theorem Ko {k:Nat} {Z1 Z3 Z2 Z5 Z6 Z4 Z7 Z0:Addr} (R:g.aD Z1 "value_at" "AlikeMaker.value_at" zu ["self","size","number"]) (aY:g.dw k "value_at" ["self","size","number"] (Uh (Cs.mk Z0 Z4 Z5 Z6 Z2 Z3 Z1 Z7) (m))) (Zj:g.mg "range"=none) (Za:Cls g.K Z1) (Zx:Yf g.K Z1 "counts") (Zy:Yf g.K Z1 "part") (Zk:Yf g.K Z1 "times"):g.Me (k+1) Z1 "value_at" ["self","size","number"] (aW (Cs.mk Z0 Z4 Z5 Z6 Z2 Z3 Z1 Z7) 6 (m+1)):=by
 refine R.me Z3A (λvs H Q E h=>by obtain ⟨w,t,prs,p,sh,sz,r,rfl,hk,vq,hl,q⟩:=h;rfl) λf_ cdv A outer s H vs Q E hr h=>?_
 obtain ⟨w,t,prs,p,sh,sz,r,rfl,hk,vq,hl,q⟩:=h;refine ⟨_,(Yi (Yn (Xt (src:=[none,some 2,some 0,some 1]) (N':=(["each","number","self","size"]:List Str)) (g:=Yy 0) (.own (.cap (i:=2) rfl rfl (by first | exact .inl rfl | exact .inr rfl) (.cap (i:=0) rfl rfl (by first | exact .inl rfl | exact .inr rfl) (.cap (i:=1) rfl rfl (by first | exact .inl rfl | exact .inr rfl) .nil)))) rfl (Y7 rfl Zj (Ya (Yv (pv 0) rfl) Yd)) (λcl C s₀ H₀ fp pn=>(Yu (i:=0) (show ax (["each","number","self","size"]:List Str) by decide +kernel) rfl (.inl rfl) (.inr rfl))) (λcl C s₀ H₀ fp pn=>Y0) (λcl C s₀ H₀ fp pn=>(XE aY hr (Qy (K:=g.K) (pv 2) rfl) (Ya (Yl Y2 (Yl Y1 (pv 3) (Qy (K:=g.K) (pv 2) rfl)) Yg) (Ya (pv 1) Yd))))))),?_⟩
 cases sh with
 | alike s k =>
  obtain ⟨dx,c,fs,hU,hd,hsm,hns,hp,bQ,hc,hsub⟩:=vq.W.at_ p _ vq.rg;obtain ⟨⟨a,e,hga,hcn⟩,hk1,hk2⟩:=id hsub;have e:fs=fA k a:=e;subst e;have hdr:dep (.alike s k)=dep s+1:=by rw [dep]
  have hok:=vq.ok;rw [aG] at hok
  have bO:=vq.bO;have cn:=vq.cn;have cH:=vq.wt;rw [wt] at cH
  have r1:=vq.r1;rw [Ub] at r1
  have hz:¬ (sz<k\/sz%k≠0):=λz=>by rw [if_pos z] at r1;have:=vq.r0;omega
  rw [if_neg hz] at r1
  have h1:1<=sz / k:=(Nat.one_le_div_iff (by omega)).mpr (by omega);have h2:sz / k<=sz:=cE _ _;obtain ⟨j,hj⟩:∃ j,sz / k=j+1:=⟨sz / k - 1,by omega⟩;have ediv:(sz:Int) / (k:Int)=((sz / k:Nat):Int):=rfl;have hcn:(t.ns p - 1) / k<=t.ns a:=hcn;have hjn:j<t.ns a:=by
   have:sz / k<=(t.ns p - 1) / k:=Nat.div_le_div_right (by omega);omega
  rw [hj,b6] at r1
  have hrl:r.toNat<(en w.bk s j).length:=by
   rw [cnt] at r1
   have:=vq.r0;omega
  have hd0:(en w.bk s j)[r.toNat]?=some (en w.bk s j)[r.toNat]:=Ε hrl;generalize (en w.bk s j)[r.toNat]=d0 at hd0;refine WN (n:=k) (λX i zs H'=>∃ (t':Sw) (L:List Addr),Tr (Cs.mk Z0 Z4 Z5 Z6 Z2 Z3 Z1 Z7) w t H t' H' 6 0/\zs.length=i/\H' X=some (.lst zs)/\¬ t'.U X/\X∉L/\dB w.D H H' zs (ft i d0) L) (λR r=>by walk_at "rd";exact ⟨_,_,_,hp,Za,Zk,_,W3 _ _ _,r⟩) (by omega) ?_ ?_ ?_ ?_
  ·intro X hX
   exact ⟨t,[],(Tr.refl vq.W _ _).put hX (vq.W.new hX).2 _,rfl,Yc,(vq.W.new hX).2,(λh=>by cases h),.nil⟩
  ·rintro X i zs H' ⟨t',L,_,h1,h2,_⟩
   exact ⟨h1,h2⟩
  ·rintro X i zs H' hX hi ⟨t',L,T1,hz1,eZ,mC,hL,hv⟩ R rr
   have dX:w.D X=none:=(vq.W.new hX).1;have VA:VQ (Cs.mk Z0 Z4 Z5 Z6 Z2 Z3 Z1 Z7) w t' H' prs a s j r:=⟨T1.wi,hga,vq.ob,vq.bk,hok.1,by omega,vq.M,by have:=(T1.gr a s hga).up;omega,by omega,vq.r0,r1,λp' sh' hr'=>(T1.gr p' sh' hr').un (vq.rd p' sh' hr')⟩;walk_at "rd";refine ⟨_,_,_,T1.fr _ _ hU.1 hp,Za,Zy,_,Uv _ _ _,a,rfl,?_⟩;refine (WT (l:=m) (Q:=λv H2=>R v H2) VA (by omega) λv d L2 t2 H2 T2 hv2 hva=>?_).map λsp h=>⟨_,_,_,T1.fr _ _ hU.1 hp,Za,Zk,_,W3 _ _ _,_,rfl,YS (by omega) (by omega),?_⟩
   ·rw [hd0] at hva
    cases Γ hva
    have hX2:=T2.fr _ _ dX eZ;obtain ⟨VS,hL2⟩:=hv.put hL T2.fr hv2 (by rw [eZ];intro z;cases z) hX2 (o' := .lst (zs++[v])) λa e=>T1.free e
    exact rr _ _ hX2 ⟨t2,L++L2,(T1.trans T2).put hX (T2.ours mC eZ) _,by rw [Μ,hz1];rfl,Yc,T2.ours mC eZ,hL2,by rw [List.replicate_succ'];exact VS⟩
   ·rw [ediv,hj,show ((j+1:Nat):Int) - 1=(j:Int) by omega]
    exact h
  ·rintro X zs H' hX ⟨t',L,T1,hz1,eZ,mC,hL,hv⟩
   exact q _ _ _ t' H' T1 (hv.lst (vq.W.new hX).1 eZ (by omega) hL hX) (by rw [W2,if_neg hz,hj,b6,Λ,hd0];rfl)
 | _=>cases hk
inductive MV (C:Cs) (w:Wo) (t:Sw) (H:Hp) (p X:Addr) (s:Sh) (sz:Nat) (r:Int) (x:Nat×Int) (σ:St) (H':Hp):Prop
 | mk (o6:Option V) (vs:List V) (ds:List Ζ) (t':Sw) (e:σ=[some (.ref p),some (.int (sz:Nat)),some (.int r),some (.ref X),some (.int (x.1:Nat)),some (.int x.2),o6]) (l:vs.length+x.1<=sz) (hd:H' X=some (.lst vs)) (hU:¬ t'.U X) (r0:0<=x.2) (r1:x.2<cnt w.bk (.many s) x.1) (T:Tr C w t H t' H' 6 0) (L:List Addr) (hL:X∉L) (v:dB w.D H H' vs ds L) (a:∀ es,(bZ (en w.bk s) x.1)[x.2.toNat]?=some es->(bZ (en w.bk s) sz)[r.toNat]?=some (ds++es))
theorem Kp {k:Nat} {Z1 Zl Z3 Z2 Z5 Z6 Z4 Z7 Z0:Addr} (R:g.aD Z3 "value_at" "ManyMaker.value_at" zm ["self","size","number"]) (pK:g.Fn k "found_in" ["blocks","number"] (uH g.K Zl)) (zQ:g.Me k Z3 "blocks_at" ["self","left"] (pD (Cs.mk Z0 Z4 Z5 Z6 Z2 Z3 Z1 Z7) 91)) (aY:g.dw k "value_at" ["self","size","number"] (Uh (Cs.mk Z0 Z4 Z5 Z6 Z2 Z3 Z1 Z7) (m))) (ZL:Cls g.K Zl) (ZG:Yf g.K Zl "place") (ZI:Yf g.K Zl "choice") (ZT:Yf g.K Zl "rest") (Zc:Cls g.K Z3) (Zq:Yf g.K Z3 "counts") (Zt:Yf g.K Z3 "part"):g.Me (k+1) Z3 "value_at" ["self","size","number"] (aW (Cs.mk Z0 Z4 Z5 Z6 Z2 Z3 Z1 Z7) 4 (m+1)):=by
 refine R.me jV (λvs H Q E h=>by obtain ⟨w,t,prs,p,sh,sz,r,rfl,hk,vq,hl,q⟩:=h;rfl) λf_ cdv A outer s H vs Q E hr h=>?_
 obtain ⟨w,t,prs,p,sh,sz,r,rfl,hk,vq,hl,q⟩:=h;refine ⟨_,(Ye (Yp (i:=3) jV.nd rfl (.inl rfl) (YR Yd)) (Ye (Yp (i:=4) jV.nd rfl (.inl rfl) (pv 1)) (Ye (Yp (i:=5) jV.nd rfl (.inl rfl) (pv 2)) (Ye (WW ai (Yq vV (pv 4) Yg (Ys _)) (Ye (Yp (i:=6) jV.nd rfl (.inl rfl) (Yz pK hr (Ya (Xx zQ Zc hr (pv 0) (Ya (pv 4) Yd)) (Ya (pv 5) Yd)))) (Ye (YY (Wy de eL eK Xm (pv 3) (Ya (XE aY hr (Yv (pv 0) rfl) (Ya (Yv (pv 6) rfl) (Ya (Yv (pv 6) rfl) Yd))) Yd))) (Ye (US (i:=4) jV.nd rfl (.inl rfl) (Yl YW Yg (Yv (pv 6) rfl)) vL) (Yi (Yp (i:=5) jV.nd rfl (.inl rfl) (Yv (pv 6) rfl))))))) (Yi (Yn (pv 3))))))),?_⟩
 cases sh with
 | many s =>
  obtain ⟨dx,c,fs,hU,hd,hsm,hns,hp,bQ,hc,hsub⟩:=vq.W.at_ p _ vq.rg;obtain ⟨a,e,hga,hcn⟩:=id hsub;have e:fs=fM a:=e;subst e;have hdr:dep (.many s)=dep s+1:=by rw [dep]
  have hok:=vq.ok;rw [aG] at hok
  have bO:=vq.bO;have cn:=vq.cn;have hM:=vq.M;have cH:=vq.wt;rw [wt] at cH
  have mwt:wt (.many s)=wt s+1:=by rw [wt]
  walk_at "rd";refine ⟨few (by decide),λX hX=>?_⟩;obtain ⟨dX,uX⟩:=vq.W.new hX;have sX:=Yj.aj hX (.lst []);refine X4 (α:=Nat×Int) (MV (Cs.mk Z0 Z4 Z5 Z6 Z2 Z3 Z1 Z7) w t H p X s sz r) (λx=>decide (0<x.1)) (λx=>x.1) (sz,r) ⟨none,[],[],t,rfl,by simp,Yc,uX,vq.r0,vq.r1,(Tr.refl vq.W _ _).put hX uX _,[],(λh=>by cases h),.nil,λes h=>h⟩ ?_ ?_ ?_
  ·rintro ⟨l,YI⟩ σ H' ⟨o6,vs,ds,t',rfl,h1,h2,h3,h4,h5,T,L,hL,hv,hva⟩ R rr
   have:=rr H' ⟨o6,vs,ds,t',rfl,h1,h2,h3,h4,h5,T,L,hL,hv,hva⟩;walk_at "rd";simpa using this
  ·rintro ⟨l,YI⟩ σ H' ⟨o6,vs,ds,t',rfl,h1,eZ,mC,h4,h5,T1,L,hL,hv,hva⟩ hcond
   have hl0:0<l:=of_decide_eq_true hcond;obtain ⟨i,rfl⟩:∃ i,l=i+1:=⟨l - 1,by omega⟩;dsimp only at h1 h4 h5 hva;have hp1:=T1.fr _ _ hU.1 hp;have Kq:∀ p' sh',w.reg p'=some sh'->f9 t' p':=λp' sh' hr'=>(T1.gr p' sh' hr').un (vq.rd p' sh' hr')
   have up:=(T1.gr p _ vq.rg).up;have cb:=λ(f:Nat) (hf:f<=i)=>Ue prs vq.ob s f (by omega) hok (by omega)
   have mb:=λ(f:Nat) (hf:f<=i)=>Ue prs vq.ob (.many s) f (by omega) (by rw [aG];exact hok) (by omega)
   have nn:∀ x∈fV w.bk s (i+1),0<=x.1/\0<=x.2:=λx hx=>by
    obtain ⟨f,_,rfl⟩:=QI hx;exact ⟨rT _ _ _,rT _ _ _⟩
   have Kr:YI<Xj (fV w.bk s (i+1)):=by rw [Xj,Io];exact h5
   have mat:=J2 (g:=bX) (A:=λf=>en w.bk s f) (B:=λf=>bZ (en w.bk s) (i - f)) (n:=i+1) (Bs:=fV w.bk s (i+1)) (a5 λf _=>by rw [cnt,cnt,Xo,Β,b6]) h4 Kr;rw [<- XA] at mat
   walk_at "rd";refine ⟨_,_,hp1,Wi (by decide +kernel) hsub,w,t',p,s,i+1,rfl,T1.wi,vq.rg,by omega,by omega,by unfold fu;rw [hM];omega,λp' sh' hr' _=>Kq p' sh' hr',λD t3 H3 T3 gD cN hB hpc=>?_⟩;refine ⟨D,_,YI,rfl,hB,by rw [Im];omega,λx hx=>?_,nn,h4,Kr,λf J8 H4 s4 gf hf=>?_⟩
   ·obtain ⟨f,hf,rfl⟩:=QI hx
    rw [vq.bk];have c1:=cb f (by omega);have c2:=mb (i+1 - 1 - f) (by omega);exact Ah c1.1 c1.2 c2.1 c2.2 (by omega) (by omega)
   ·generalize aK (fV w.bk s (i+1)) YI=fd at mat hf
    obtain ⟨m1,m2,m3,m4,m5,mat⟩:=mat;have T4:=T3.same s4;have mq:=T1.trans (T4.mono (by omega));have uI:=T4.fr _ _ dX eZ;have Og:=T4.ours mC eZ;have hp4:=mq.fr _ _ hU.1 hp;have hna:=hpc dx c a hp1;have VA:VQ (Cs.mk Z0 Z4 Z5 Z6 Z2 Z3 Z1 Z7) w t3 H4 prs a s fd.1 fd.2.1:=⟨T4.wi,hga,vq.ob,vq.bk,hok,by omega,vq.M,by omega,by omega,m2,m3,λp' sh' hr'=>(T4.gr p' sh' hr').un (Kq p' sh' hr')⟩;refine ⟨.inl ⟨rfl,_,ao.of uI⟩,_,_,_,hp4,Zc,Zt,_,Uv _ _ _,a,rfl,?_⟩;refine (WT (l:=m) VA (by omega) λv d L5 t5 H5 T5 Al sG=>?_).map λsp h=>⟨f,rfl,_,_,_,hf,ZL,ZG,_,Vc _ _ _,f,rfl,_,_,_,hf,ZL,ZI,_,Qk _ _ _,h⟩
    have Aq:=T5.fr _ _ dX uI;have Ar:=T5.ours Og uI;have pL:=T5.fr _ _ (T3.wi.new gf).1 hf;have nfX:f≠X:=Xw pL Aq (by simp);have pN:=(Yh (H:=H5) (o := .lst (vs++[v])) nfX).trans pL;obtain ⟨VS,gW⟩:=(hv.fr T4.fr).put hL T5.fr Al (by rw [uI];intro z;cases z) Aq (o' := .lst (vs++[v])) λa e=>mq.free e
    refine ⟨_,Aq,few (by omega),f,rfl,_,_,_,pN,ZL,ZG,_,Vc _ _ _,_,rfl,f,rfl,_,_,_,pN,ZL,ZT,_,J9 _ _ _,(i - fd.1,fd.2.2),?_,by dsimp only;omega⟩;refine ⟨_,vs++[v],ds++[d],t5,by dsimp only;rw [show ((i+1:Nat):Int) - (1+(fd.1:Nat))=((i - fd.1:Nat):Int) by omega],by rw [Μ,av];dsimp only;omega,Yc,Ar,m4,by rw [cnt,Xo,Β];exact m5,(mq.trans T5).put hX Ar _,_,gW,VS,λes he=>?_⟩;rw [bu];exact hva _ (mat d es sG he)
  ·rintro ⟨l,YI⟩ σ H' ⟨o6,vs,ds,t',rfl,h1,eZ,mC,h4,h5,T1,L,hL,hv,hva⟩ hcond
   have hl0:l=0:=by have:=of_decide_eq_false hcond;dsimp only at this;omega
   subst hl0;dsimp only at h1 h4 h5 hva;rw [Q2] at h5
   have h1':=hva [] (by rw [VG,show YI=0 by omega];rfl);rw [a4] at h1'
   walk_at "rd";exact q _ _ _ t' H' T1 (hv.lst dX eZ (by omega) hL hX) (by rw [Xo,Λ,h1'];rfl)
 | _=>cases hk
section
variable {src:List (Option Nat)} {te:TE} {σ:St} {H:Hp} {Q:VK}
theorem Yc2 {ta:TA} {n:Nat} (Z:Hp->Prop) (ha:∀ R:List V->Hp->Prop,(∀ H1,Z H1->R [.int n] H1)->ta σ H R) (hlen:n<=100000)
  (hz:∀ H1,Z H1->∃ I:Addr->Nat->List V->Hp->Prop,(∀ D,H1 D=none->I D 0 [] (upd H1 D (.lst [])))/\(∀ D i zs H',I D i zs H'->zs.length=i/\H' D=some (.lst zs)) /\
   (∀ D i zs H',H1 D=none->i<n->I D i zs H'->∀ R:VK,(∀ y aM,aM D=some (.lst zs)->I D (i+1) (zs++[y]) (upd aM D (.lst (zs++[y])))->R y aM)->te (some (.int i)::YB src σ) H' R) /\
   ∀ D zs H',H1 D=none->I D n zs H'->Q (.ref D) H'):c7 (none::src) (Uk ta) (Yy 0) XO te σ H Q:=by
 refine ha _ λH1 hZ=>⟨n,rfl,by omega,by omega,λD hD=>?_⟩
 obtain ⟨I,i0,dl,step,fin⟩:=hz H1 hZ;have h6:100000<sizeLine:=by decide
 refine W9 (Wz (lo:=0) (n:=n) (P:=λ_=>True)) (λi zs σ' H'=>(∃ o,σ'=o::YB src σ)/\i<=n/\I D i zs H') ⟨⟨none,rfl⟩,ι _,i0 D hD⟩ (λi zs σ' H' q=>⟨trivial,(dl _ _ _ _ q.2.2).2⟩) (XX 0) ?_ ?_
 ·rintro i zs σ' H' x hx ⟨⟨o,rfl⟩,_,hI⟩
  have hi:i<n:=by have:=(Η.mp hx).1;simpa using this
  rw [Λ,aI hi] at hx
  have e:V.int (0+(i:Int))=x:=Γ hx;rw [i6] at e
  subst e;have hl:=(dl _ _ _ _ hI).1
  show te (some (.int i)::YB src σ) H' _
  exact step D i zs H' hD hi hI _ λy aM hd hI'=>⟨hd,by omega,⟨_,rfl⟩,hi,hI'⟩
 ·rintro zs σ' H' ⟨_,_,hI⟩
  exact fin D zs H' hD (by simpa using hI)
end
structure AQ (C:Cs) (w:Wo) (t:Sw) (H:Hp) (prs:aU) (p:Addr) (sh:Sh) (s:Nat):Prop where
 W:WI C w t H
 rg:w.reg p=some sh
 ob:iU prs
 bk:w.bk=aF prs
 ok:aG prs sh
 wt:wt sh<=24
 M:w.M=2
 bO:s<=5
 rd:∀ p sh,w.reg p=some sh->f9 t p
 dp:dep sh<=2
theorem AQ.call {C:Cs} {w:Wo} {t:Sw} {H:Hp} {prs:aU} {p:Addr} {sh:Sh} {s:Nat} {Q:VK} (h:AQ C w t H prs p sh s) (q:∀ t' H',Tr C w t H t' H' 6 0->s<t'.ns p->Q (.int (cnt w.bk sh s)) H'):iu (Vg C 91) H p "count_at" λsp=>sp [.ref p,.int s] H Q E0:=by
 have h1:=h.bO;have h2:=h.dp;exact Wt h.W h.rg (by omega) (by unfold fu;rw [h.M];omega) (λp' sh' hr' _=>h.rd p' sh' hr') λt' H' T n=>q t' H' (T.mono (by omega)) n
theorem AQ.on {C:Cs} {w:Wo} {t t':Sw} {H H':Hp} {prs:aU} {p:Addr} {sh:Sh} {s a b:Nat} (h:AQ C w t H prs p sh s) (T:Tr C w t H t' H' a b):AQ C w t' H' prs p sh s:=⟨T.wi,h.rg,h.ob,h.bk,h.ok,h.wt,h.M,h.bO,λp' sh' hr'=>(T.gr p' sh' hr').un (h.rd p' sh' hr'),h.dp⟩
theorem AQ.vq {C:Cs} {w:Wo} {t:Sw} {H:Hp} {prs:aU} {p:Addr} {sh:Sh} {s:Nat} {r:Int} (h:AQ C w t H prs p sh s) (n:s<t.ns p) (h0:0<=r) (h1:r<cnt w.bk sh s):VQ C w t H prs p sh s r:=⟨h.W,h.rg,h.ob,h.bk,h.ok,h.wt,h.M,n,h.bO,h0,h1,h.rd⟩
inductive Ks (C:Cs) (vs:List V) (H:Hp) (Q:VK) (E_:XK):Prop
 | mk (w:Wo) (t:Sw) (prs:aU) (p:Addr) (sh:Sh) (s:Nat) (h0:vs=[.ref p,.int (s:Nat)]) (h1:AQ C w t H prs p sh s) (h2:(en w.bk sh s).length<=10000) (h3:∀ X L t' H',Tr C w t H t' H' 6 0->VW w.D H H' (.ref X) (.list (en w.bk sh s)) L->Q (.ref X) H')
inductive MA (C:Cs) (w:Wo) (t:Sw) (H:Hp) (p:Addr) (sh:Sh) (s:Nat) (X:Addr) (i:Nat) (zs:List V) (H':Hp):Prop
 | mk (t':Sw) (L:List Addr) (l:zs.length=i) (hd:H' X=some (.lst zs)) (hU:¬ t'.U X) (hX:H X=none) (hn:s<t'.ns p) (T:Tr C w t H t' H' 6 0) (hL:X∉L) (v:dB w.D H H' zs ((en w.bk sh s).take i) L)
theorem Ybp {k:Nat} {Z1 Z3 Z2 Z5 Z6 Z4 Z7 Z0:Addr} (R:g.Raw "all_made" "all_made" xR ["maker","size"]) (aR:g.dw k "count_at" ["self","size"] (Vg (Cs.mk Z0 Z4 Z5 Z6 Z2 Z3 Z1 Z7) (91))) (aY:g.dw k "value_at" ["self","size","number"] (Uh (Cs.mk Z0 Z4 Z5 Z6 Z2 Z3 Z1 Z7) (18))) (Zj:g.mg "range"=none):g.Fn (k+1) "all_made" ["maker","size"] (Ks (Cs.mk Z0 Z4 Z5 Z6 Z2 Z3 Z1 Z7)):=by
 refine R.fn Ybj (λvs H Q E h=>by obtain ⟨w,t,prs,p,sh,s,rfl,aq,hc,q⟩:=h;rfl) λf_ cdv A outer s H vs Q E hr h=>?_
 obtain ⟨w,t,prs,p,sh,s,rfl,aq,hc,q⟩:=h;refine ⟨_,(Yi (Yn (Xt (src:=[none,some 1,some 0]) (N':=(["number","size","maker"]:List Str)) (g:=Yy 0) (.own (.cap (i:=1) rfl rfl (by first | exact .inl rfl | exact .inr rfl) (.cap (i:=0) rfl rfl (by first | exact .inl rfl | exact .inr rfl) .nil))) rfl (Y7 rfl Zj (Ya (XE aR hr (pv 0) (Ya (pv 1) Yd)) Yd)) (λcl C s₀ H₀ fp pn=>(Yu (i:=0) (show ax (["number","size","maker"]:List Str) by decide +kernel) rfl (.inl rfl) (.inr rfl))) (λcl C s₀ H₀ fp pn=>Y0) (λcl C s₀ H₀ fp pn=>(XE aY hr (pv 2) (Ya (pv 1) (Ya (pv 0) Yd))))))),?_⟩;have bO:=aq.bO;have dp:=aq.dp;refine Yc2 (n:=(en w.bk sh s).length) (λH1=>∃ t1,Tr (Cs.mk Z0 Z4 Z5 Z6 Z2 Z3 Z1 Z7) w t H t1 H1 6 0/\s<t1.ns p) (λR r=>?_) (by omega) ?_
 ·walk_at "rd"
  exact aq.call λt1 H1 T1 n1=>r H1 ⟨t1,T1,n1⟩
 ·rintro H1 ⟨t1,T1,n1⟩
  refine ⟨MA (Cs.mk Z0 Z4 Z5 Z6 Z2 Z3 Z1 Z7) w t H p sh s,λX hX=>?_,λX i zs H' ⟨_,_,l,hd,_,_,_,_,_,_⟩=>⟨l,hd⟩,?_,?_⟩
  ·have n:=T1.wi.new hX
   exact ⟨t1,[],rfl,Yc,n.2,T1.free hX,n1,T1.put (T1.free hX) n.2 _,(λh=>by cases h),.nil⟩
  ·rintro X i zs H' eZ hi ⟨t',L,hl,hd,hU,hX,hn,T,hL,v⟩ R r
   have aq':=aq.on T;have dX:w.D X=none:=(aq.W.new hX).1;have hdi:(en w.bk sh s)[i]?=some (en w.bk sh s)[i]:=Ε hi;walk_at "rd";refine WT (l:=18) (aq'.vq hn (by omega) (by rw [cnt];omega)) (by omega) λu d L2 t2 H2 T2 hv hva=>?_
   have hd2:=T2.fr _ _ dX hd;rw [bm,hdi] at hva
   cases Γ hva
   obtain ⟨VS,hL2⟩:=v.put hL T2.fr hv (by rw [hd];intro z;cases z) hd2 (o' := .lst (zs++[u])) λa e=>T.free e
   rw [<- Y4 hdi] at VS
   exact r u H2 hd2 ⟨t2,L++L2,by rw [Μ,hl];rfl,Yc,T2.ours hU hd,hX,τ hn (T2.gr p _ aq.rg).up,(T.trans T2).put hX (T2.ours hU hd) _,hL2,VS⟩
  ·rintro X zs H' eZ ⟨t',L,hl,hd,hU,hX,hn,T,hL,v⟩
   rw [di] at v
   exact q X _ t' H' T (v.lst (aq.W.new hX).1 hd (by omega) hL hX)
theorem YgV {C:Cs} {prs:aU} {H H1:Hp} {p:Addr} {sh:Sh} {s:Nat} (h:MW C prs 2 H H1 p sh) (ob:iU prs) (ok:aG prs sh) (hw:wt sh<=24) (hd:dep sh<=2) (hs:s<=5):∃ w U,AQ C w (t0 U) H1 prs p sh s/\∀ t' H',Tr C w (t0 U) H1 t' H' 6 0->Yj H H':=by
 obtain ⟨w,U,W,hg,pO,hM,s1,hU⟩:=h;refine ⟨w,U,⟨W,hg,ob,pO,ok,hw,hM,hs,λp' sh' _ i=>rfl,hd⟩,λt' H' T b o e=>T.fr b o ?_ (s1 _ _ e)⟩
 cases z:w.D b with
 | none=>rfl
 | some x =>
  have:=hU b (W.ow b x z);rw [e] at this
  cases this
inductive pP (vs:List V) (H:Hp) (Q:VK) (E_:XK):Prop
 | mk (i j:Int) (h0:vs=[.int i,.int j]) (h1:i<=j) (h2:Q .non H)
theorem Z59  (R:g.Raw "refuse_too_many" "refuse_too_many" xQ ["count","most"]):g.Fn (1) "refuse_too_many" ["count","most"] (pP):=by
 refine R.fn Z51 (λvs H Q E h=>by obtain ⟨i,j,rfl,hij,q⟩:=h;rfl) λf_ cdv A outer s H vs Q E hr h=>?_
 obtain ⟨i,j,rfl,hij,q⟩:=h;refine ⟨_,(Yi (YF (Yq vV (pv 0) (pv 1) (Ys _)) (Yi Vu) Yw)),?_⟩;walk_at "rd";rw [if_neg (by omega)];exact q
structure Av (K:Ι) (H:Hp) (prs:aU) (B a:Addr) (sh:Sh) (n:Nat):Prop where
 hB:UO K H B prs
 hk:DK K H a (kd sh)
 ok:aG prs sh
 ob:iU prs
 wt:wt sh<=24
 dp:dep sh<=2
 hn:n<=5
 hc:(en (aF prs) sh n).length<=10000
inductive Ku (K:Ι) (vs:List V) (H:Hp) (Q:VK) (E_:XK):Prop
 | mk (prs:aU) (B a:Addr) (sh:Sh) (n:Nat) (most:Int) (h0:vs=[.ref B,.ref a,.int n,.int most]) (h1:Av K H prs B a sh n) (h2:((en (aF prs) sh n).length:Int)<=most) (h3:∀ X L H',Yj H H'->OwD H H' (.ref X) (.list (en (aF prs) sh n)) L->Q (.ref X) H')
theorem Yac {k:Nat} {Z1 Z3 Z2 Z5 Z6 Z4 Z7 Z0:Addr} (R:g.iK "all_values" "all_values" xT ["book","shape","size","most"] [.int 400]) (lA:g.Fn k "maker_for" ["book","shape"] (JW g.K (Cs.mk Z0 Z4 Z5 Z6 Z2 Z3 Z1 Z7))) (Z5p:g.Fn k "refuse_too_many" ["count","most"] (pP)) (nJ:g.Fn k "all_made" ["maker","size"] (Ks (Cs.mk Z0 Z4 Z5 Z6 Z2 Z3 Z1 Z7))) (aR:g.dw k "count_at" ["self","size"] (Vg (Cs.mk Z0 Z4 Z5 Z6 Z2 Z3 Z1 Z7) (91))):g.gO (k+1) "all_values" ["book","shape","size","most"] [.int 400] (Ku g.K):=by
 refine R.fnE GF (λvs H Q E h=>by obtain ⟨prs,B,a,sh,n,most,rfl,A,hm,q⟩:=h;rfl) λf_ cdv A outer s H vs Q E hr h=>?_
 obtain ⟨prs,B,a,sh,n,most,rfl,A,hm,q⟩:=h;refine ⟨_,(Ye (Yp (i:=4) GF.nd rfl (.inl rfl) (Yz lA hr (Ya (pv 0) (Ya (pv 1) Yd)))) (Ye (YY (Yz Z5p hr (Ya (XE aR hr (pv 4) (Ya (pv 2) Yd)) (Ya (pv 3) Yd)))) (Yi (Yn (Yz nJ hr (Ya (pv 4) (Ya (pv 2) Yd))))))),?_⟩;refine WC λR rr=>?_
 walk_at "rd";refine ⟨prs,B,a,sh,rfl,A.hB,A.hk,A.ok,A.ob,A.wt,A.dp,λp H1 mw=>rr _ _ (WC λR rr=>?_)⟩;have s1:Yj H H1:=by obtain ⟨_,_,_,_,_,_,s1,_⟩:=mw;exact s1
 obtain ⟨w,U,aq,same⟩:=YgV mw A.ob A.ok A.wt A.dp A.hn;have pO:=aq.bk;have hc:=A.hc;walk_at "rd";refine aq.call λt1 H2 T1 n1=>?_
 rw [pO];refine ⟨_,_,rfl,hm,rr _ _ ?_⟩;walk_at "rd";refine ⟨w,t1,prs,p,sh,n,rfl,aq.on T1,by rw [pO];exact hc,λX L t' H' T2 hv=>?_⟩;have T:=T1.trans T2;rw [pO] at hv
 exact q X L H' (same t' H' T) ⟨hv.vl.dl,hv.nd,λa ha=>s1.free (T1.free (hv.new a ha))⟩
inductive j7 (vs:List V) (H:Hp) (Q:VK) (E_:XK):Prop
 | mk (sg:List Nat) (n:Nat) (h0:vs=[.str (S sg),.int n]) (h1:sg.length<=62) (h2:n<=5) (h3:(∀ i,i<=n->(bU sg i).length<=20000)) (h4:∀ D H',Yj H H'->H D=none->H' D=some (.lst ((bU sg n).map λx=>V.str (S x)))->Q (.ref D) H')
theorem Kv {sg:List Nat} {x:List Nat}:∀ {s:Nat},x∈bU sg s->x.length=s
 | 0,h=>by
  cases Ξ.mp h
  rfl
 | s+1,h=>by
  rw [bU,aZ,a9] at h
  obtain ⟨y,hy,h⟩:=h;obtain ⟨c,_,rfl⟩:=ar.mp h;rw [Μ,Kv hy];rfl
theorem Ww {α β γ:Type} (g:α->β->γ) {A:List α} {B:List β} {i:Nat} {a:α} (h:A[i]?=some a):aZ g (A.take (i+1)) B=aZ g (A.take i) B++B.map (g a):=by
 rw [aZ,Y4 h,List.flatMap_append,<- aZ];simp
theorem Aw {α β γ:Type} (g:α->β->γ) (A:List α) (B:List β) (i:Nat):(aZ g (A.take i) B).length<=(aZ g A B).length:=by
 rw [XZ,XZ];exact c8 _ (by rw [ay];exact Nat.min_le_right _ _)
theorem Ya7  (R:g.Raw "_law_texts" "_law_texts" xW ["_law_signs","_law_size_here"]) (Zj:g.mg "range"=none):g.Fn (1) "_law_texts" ["_law_signs","_law_size_here"] (j7):=by
 refine R.fn jU (λvs H Q E h=>by obtain ⟨sg,n,rfl,Km,hn,hl,q⟩:=h;rfl) λf_ cdv A outer s H vs Q E hr h=>?_
 obtain ⟨sg,n,rfl,Km,hn,hl,q⟩:=h;refine ⟨_,(Ye (Yp (i:=2) jU.nd rfl (.inl rfl) (YR (Ya YM Yd))) (Ye (Xp ai rfl (Y7 rfl Zj (Ya (pv 1) Yd)) (Yu (i:=3) jU.nd rfl (.inl rfl)) (Ye (Yp (i:=4) jU.nd rfl (.inl rfl) (YR Yd)) (Ye (Xp ai rfl (Xc (pv 2)) (Yu (i:=5) jU.nd rfl (.inr rfl)) (Yi (Yp (i:=4) jU.nd rfl (.inl rfl) (Yl VZ (pv 4) (Xt (src:=[none,some 5]) (N':=(["_law_sign","_law_value"]:List Str)) (g:=Yy 0) (.own (.cap (i:=5) rfl rfl (by first | exact .inl rfl | exact .inr rfl) .nil)) rfl (Sd (pv 0)) (λcl C s₀ H₀ fp pn=>(Yu (i:=0) (show ax (["_law_sign","_law_value"]:List Str) by decide +kernel) rfl (.inl rfl) (.inr rfl))) (λcl C s₀ H₀ fp pn=>Y0) (λcl C s₀ H₀ fp pn=>(Yl UW (pv 1) (pv 0)))))))) (Yi (Yp (i:=2) jU.nd rfl (.inl rfl) (pv 4)))))) (Yi (Yn (pv 2))))),?_⟩;walk_at "rd";refine ⟨few (by decide),λD0 Kw=>?_⟩;refine XN (n:=n) (λi σ H'=>∃ D o3 o4 o5,σ=[some (.str (S sg)),some (.int n),some (.ref D),o3,o4,o5]/\Yj H H'/\H D=none/\H' D=some (.lst ((bU sg i).map λx=>V.str (S x)))) (λR r=>by walk_at "rd";exact r) (by omega) ⟨D0,_,_,_,rfl,.aj Kw _,Kw,Yc⟩ ?_ ?_
 ·rintro i σ H1 hi ⟨D,o3,o4,o5,rfl,s1,gD,hD⟩
  walk_at "rd";refine ⟨few (by decide),λM hM=>?_⟩;have sM:=Yj.aj hM (.lst []);have hle:=hl (i+1) (by omega);rw [bU] at hle
  refine Qa (K:=g.K) (xs:=(bU sg i).map λx=>V.str (S x)) (λc j σ H'=>c=D/\∃ M o5,σ=[some (.str (S sg)),some (.int n),some (.ref D),some (.int i),some (.ref M),o5]/\Yj H1 H'/\H1 M=none/\H' M=some (.lst ((aZ (λx c=>x++[c]) ((bU sg i).take j) sg).map λx=>V.str (S x)))) (λR r=>by walk_at "rd";exact r D _ ⟨rfl,M,_,rfl,sM,hM,Yc⟩) (λc j σ H' _ ⟨e,M,o5,_,s,_⟩=>by subst e;exact ao.of (s _ _ hD)) ?_ ?_
  ·rintro c j x σ H2 hx ⟨rfl,M,o5,rfl,s2,gM,uJ⟩
   rw [Λ] at hx
   obtain ⟨x,hx',rfl⟩:=ε.mp hx;have fO:=Kv (Τ hx');walk_at "rd";refine Tq (l:=sg) (sg.map λc=>V.str (S (x++[c]))) (λR r=>by walk_at "rd";exact r) (by rw [Β]) (by omega) ?_ ?_
   ·intro k c y H' hc hy sm R r
    rw [Λ,hc] at hy
    cases Γ hy
    walk_at "rd";refine ⟨few (by rw [Xu,Xu,fO];show i+1<=_;omega),?_⟩;rw [tW];exact r H' (.refl _)
   ·intro B H3 hB s3 hB3
    have p1:=Aw (λ(x:List Nat) (c:Nat)=>x++[c]) (bU sg i) sg (j+1);rw [Ww _ hx',Μ,Β] at p1
    refine ⟨B,rfl,_,s3 _ _ uJ,_,hB3,few (by rw [Β,Β];omega),λP hP=>⟨(s2.trans s3).trans (.aj hP _),(s2.trans s3).free hP,?_⟩⟩;rw [Yc,Ww _ hx',a8,bn];rfl
  ·rintro c σ H2 ⟨rfl,M,o5,rfl,s2,gM,uJ⟩
   walk_at "rd";rw [Β,di] at uJ
   exact ⟨s1.trans s2,s1.free gM,uJ⟩
 ·rintro σ H1 ⟨D,o3,o4,o5,rfl,s1,gD,hD⟩
  walk_at "rd";exact q D H1 s1 gD hD
theorem Ky:∀ i:Nat,i<=4->(2^i:Int).natAbs<2^8
 | 0,_=>by decide
 | 1,_=>by decide
 | 2,_=>by decide
 | 3,_=>by decide
 | 4,_=>by decide
 | n+5,h=>absurd h (by omega)
theorem Yc3 {src:List (Option Nat)} {te:TE} {σ:St} {H:Hp} {Q:VK} {ta:TA} {lo hi:Int} {f:Nat->V} (ha:∀ R:List V->Hp->Prop,R [.int lo,.int hi] H->ta σ H R) (hb : -(2^62)<=lo/\lo<2^62 /\ -(2^62)<=hi/\hi<2^62) (hlen:(hi - lo).toNat<=100000)
  (step:∀ (i:Nat) H',i<(hi - lo).toNat->Yj H H'->∀ R:VK,(∀ aM,Yj H' aM->R (f i) aM)->te (some (.int (lo+i))::YB src σ) H' R)
  (fin:∀ D H',H D=none->Yj H H'->H' D=some (.lst ((η (hi - lo).toNat).map f))->Q (.ref D) H'):c7 (none::src) (DR ta) (Yy 0) XO te σ H Q:=by
 refine ha _ ⟨lo,hi,rfl,hb,λD hD=>?_⟩;refine U9 (Wz (lo:=lo) (n:=(hi - lo).toNat) (P:=λ_=>True)) ((η (hi - lo).toNat).map f) (λ_ _=>trivial) hD (by rw [Β,Β]) (by rw [Β,aS];exact hlen) (λi x y H' hx hy sm R r=>?_) λH'=>fin D H' hD
 have hi:i<(hi - lo).toNat:=by have:=(Η.mp hx).1;simpa using this
 rw [Λ,aI hi] at hx hy
 cases Γ hx
 cases Γ hy
 exact step i H' hi sm R r
theorem CZ:∀ j:Fin 5,∀ span:Fin 7,(1*2^(j.val+1) / 2^1:Int)=2^j.val/\(2^j.val:Int)<2^20/\(0:Int)<2^j.val/\((if (((span.val:Nat):Int)+1:Int)<2*2^j.val then (((span.val:Nat):Int)+1:Int) else 2*2^j.val) - 2^j.val).toNat=(wc ((span.val:Nat):Int) (j.val+1)).toNat:=by decide +kernel
theorem nlen {lo:Int} {j span:Nat} (hj:j<=4) (hs:span<=6):(1*2^(j+1) / 2^1:Int)=2^j/\(2^j:Int)<2^20/\(0:Int)<2^j/\((if (lo+span - lo+1:Int)<2*2^j then (lo+span - lo+1:Int) else 2*2^j) - 2^j).toNat=(wc span (j+1)).toNat:=by
 rw [show lo+(span:Int) - lo=span by omega];exact CZ ⟨j,by omega⟩ ⟨span,by omega⟩
inductive Kz (vs:List V) (H:Hp) (Q:VK) (E_:XK):Prop
 | mk (lo:Int) (span n:Nat) (h0:vs=[.int lo,.int (lo+span),.int n]) (h1:span<=6) (h2:n<=5) (h3:∀ D H',Yj H H'->H D=none->H' D=some (.lst ((η (wc span n).toNat).map λ(r:Nat)=>V.int (lo+1*2^n / 2^1+(r:Int))))->Q (.ref D) H')
theorem Z67  (R:g.Raw "_law_numbers" "_law_numbers" xX ["_law_low","_law_high","_law_size_here"]) (cu:g.mg "min"=none) (Zj:g.mg "range"=none):g.Fn (1) "_law_numbers" ["_law_low","_law_high","_law_size_here"] (Kz):=by
 refine R.fn uh (λvs H Q E h=>by obtain ⟨lo,span,n,rfl,hsp,hn,q⟩:=h;rfl) λf_ cdv A outer s H vs Q E hr h=>?_
 obtain ⟨lo,span,n,rfl,hsp,hn,q⟩:=h;refine ⟨_,(Ye (YF (Yq YK (pv 2) Yg (Ys _)) (Yi (Yn (YR (Ya (pv 0) Yd)))) Yw) (Ye (Yp (i:=3) uh.nd rfl (.inl rfl) Yg) (Ye (Xp ai rfl (Y7 rfl Zj (Ya (Yl Y2 (pv 2) Yg) Yd)) (Yu (i:=4) uh.nd rfl (.inl rfl)) (Yi (Yp (i:=3) uh.nd rfl (.inl rfl) (Yl XD Yg (pv 3))))) (Yi (Yn (Xt (src:=[none,some 0]) (N':=(["_law_step","_law_low"]:List Str)) (g:=Yy 0) (.own (.cap (i:=0) rfl rfl (by first | exact .inl rfl | exact .inr rfl) .nil)) rfl (O9 rfl Zj (Ya (pv 3) (Ya (YN cu (VU rfl) (Ya (Yl XD Yg (pv 3)) (Ya (Yl YW (Yl Y2 (pv 1) (pv 0)) Yg) Yd))) Yd)) (by rfl) (by rfl)) (λcl C s₀ H₀ fp pn=>(Yu (i:=0) (show ax (["_law_step","_law_low"]:List Str) by decide +kernel) rfl (.inl rfl) (.inr rfl))) (λcl C s₀ H₀ fp pn=>Y0) (λcl C s₀ H₀ fp pn=>(Yl YW (pv 1) (pv 0))))))))),?_⟩;walk_at "rd";refine Xv (λc=>?_) (λc=>?_)
 ·have e:n=0:=by omega
  subst e;refine ⟨few (by decide),λD hD=>q D _ (.aj hD _) hD (Yc.trans ?_)⟩;rw [show wc (span:Nat) 0=1 by unfold wc;simp only [Int.pow_zero];split<;>split<;>omega];simp
 ·obtain ⟨j,rfl⟩:∃ j,n=j+1:=⟨n - 1,by omega⟩
  obtain ⟨e1,e2,e3,e4⟩:=nlen (lo:=lo) (j:=j) (span:=span) (by omega) hsp;rw [e1,<- e4] at q
  refine XN (n:=j) (λi σ H'=>∃ o,σ=[some (.int lo),some (.int (lo+span)),some (.int (j+1:Nat)),some (.int (2^i)),o]/\H'=H) (λR r=>by walk_at "rd";rw [show ((j+1:Nat):Int) - 1=(j:Int) by omega];exact r) (by omega) ⟨_,rfl,rfl⟩ ?_ ?_
  ·rintro i σ H1 hi ⟨o,rfl,rfl⟩
   walk_at "rd";exact ⟨.inl (cm (m:=3) (n:=8) (by decide) (Ky i (by omega))),by rw [Int.pow_succ,Int.mul_comm]⟩
  ·rintro σ H1 ⟨o,rfl,rfl⟩
   walk_at "rd";refine Yc3 (lo:=2^j) (hi:=if (lo+span - lo+1:Int)<2*2^j then (lo+span - lo+1:Int) else 2*2^j) (f:=λr => .int (lo+2^j+(r:Int))) (λR r=>?_) (by split<;>omega) (by split<;>omega) ?_ ?_
   ·walk_at "rd"
    exact ⟨.inl (cm (m:=3) (n:=8) (by decide) (Ky j (by omega))),r⟩
   ·intro k H' hk sm R r
    walk_at "rd";rw [show (lo:Int)+(2^j+(k:Int))=lo+2^j+(k:Int) by omega];exact r _ (.refl _)
   ·exact λD H' hD s hl=>q D H' s hD hl
mutual
def Ab (bk:List Nat->Sh):Sh->Prop
 | .w lo span=>span<=6/\∀ f,f<=5->(en bk (.w lo span) f).length<=20000
 | .t sg=>∀ f,f<=5->(en bk (.t sg) f).length<=20000
 | .row ps=>(∀ f,f<=5->(en bk (.row ps) f).length<=20000)/\ps.length<=3/\dJ bk ps
 | .pick mk ps=>(∀ f,f<=5->(en bk (.pick mk ps) f).length<=20000)/\ps.length<=3/\dJ bk ps
 | .many p=>(∀ f,f<=5->(en bk (.many p) f).length<=20000)/\Ab bk p
 | .alike p k=>(∀ f,f<=5->(en bk (.alike p k) f).length<=20000)/\k<=3/\Ab bk p
 | .use x=>∀ f,f<=5->(en bk (.use x) f).length<=20000
def dJ (bk:List Nat->Sh):List Sh->Prop
 | []=>True
 | p::ps=>Ab bk p/\dJ bk ps/\∀ f,f<=5->(bL bk (p::ps) f).length<=20000
end
theorem Ab.lb {bk:List Nat->Sh} {sh:Sh} (h:Ab bk sh):∀ f,f<=5->(en bk sh f).length<=20000:=by
 cases sh<;>rw [Ab] at h
 ·exact h.2
 ·exact h
 ·exact h.1
 ·exact h.1
 ·exact h.1
 ·exact h.1
 ·exact h
theorem dJ.lb {bk:List Nat->Sh} {ps:List Sh} (h:dJ bk ps):∀ f,f<=5->(bL bk ps f).length<=20000:=by
 cases ps<;>rw [dJ] at h
 ·intro f _
  rw [X6]
  split<;>decide
 ·exact h.2.2
structure LB (K:Ι) (H:Hp) (B:Addr) (nm:List Nat) (lf:Sh):Prop where
 hB:∃ T a,ao K H B [.ref T]/\aH K H T [.str (S nm),.ref a]/\DK K H a (kd lf)
 ok:aG [(nm,lf)] lf
 ab:Ab (aF [(nm,lf)]) lf
 d0:dep lf=0
theorem LB.keep {K:Ι} {H H':Hp} {B:Addr} {nm:List Nat} {lf:Sh} (h:LB K H B nm lf) (s:Yj H H'):LB K H' B nm lf:=by
 obtain ⟨⟨T,a,h1,h2,h3⟩,h4,h5,h6⟩:=h;exact ⟨⟨T,a,s.seq h1,s.tup h2,h3.keep s⟩,h4,h5,h6⟩
def cW (H:Hp) (D:Addr) (ds:List Ζ):Prop:=∃ vs,H D=some (.lst vs)/\bw H vs ds
theorem cW.keep {H H':Hp} {D:Addr} {ds:List Ζ} (h:cW H D ds) (s:Yj H H'):cW H' D ds:=by
 obtain ⟨vs,h1,h2⟩:=h;exact ⟨vs,s _ _ h1,h2.keep s⟩
structure LA (K:Ι) (H:Hp) (B a:Addr) (nm:List Nat) (lf sh:Sh) (n m:Nat):Prop where
 lb:LB K H B nm lf
 hk:DK K H a (kd sh)
 ok:aG [(nm,lf)] sh
 ab:Ab (aF [(nm,lf)]) sh
 hn:n<=5
 dp:dep sh<=2
 lv:20*n+8*dep sh+1<=m
inductive cI (K:Ι) (m:Nat) (vs:List V) (H:Hp) (Q:VK) (E_:XK):Prop
 | mk (B a:Addr) (nm:List Nat) (lf sh:Sh) (n:Nat) (h0:vs=[.ref B,.ref a,.int n]) (h1:LA K H B a nm lf sh n m) (h2:∀ D H',Yj H H'->H D=none->cW H' D (en (aF [(nm,lf)]) sh n)->Q (.ref D) H')
structure LR (K:Ι) (H:Hp) (B T:Addr) (nm:List Nat) (lf:Sh) (ps:List Sh) (n m:Nat):Prop where
 lb:LB K H B nm lf
 hk:Den K H (.ref T) (.tuple (bJ ps))
 d8:(PyData.tuple (bJ ps)).depth<=8
 ok:Xe [(nm,lf)] ps
 ab:dJ (aF [(nm,lf)]) ps
 hn:n<=5
 dp:YG ps<=1
 l3:ps.length<=3
 lv:20*n+8*YG ps+ps.length+2<=m
inductive pQ (K:Ι) (m:Nat) (vs:List V) (H:Hp) (Q:VK) (E_:XK):Prop
 | mk (B T:Addr) (nm:List Nat) (lf:Sh) (ps:List Sh) (n:Nat) (h0:vs=[.ref B,.ref T,.int n]) (h1:LR K H B T nm lf ps n m) (h2:∀ D H',Yj H H'->H D=none->cW H' D ((bL (aF [(nm,lf)]) ps n).map .tuple)->Q (.ref D) H')
structure LM (K:Ι) (H:Hp) (B a:Addr) (nm:List Nat) (lf p:Sh) (n m:Nat):Prop where
 lb:LB K H B nm lf
 hk:DK K H a (kd p)
 ok:aG [(nm,lf)] p
 ab:Ab (aF [(nm,lf)]) p
 lm:∀ f,f<=5->(en (aF [(nm,lf)]) (.many p) f).length<=20000
 hn:n<=5
 dp:dep p<=1
 lv:20*n+8*dep p+2<=m
inductive pR (K:Ι) (m:Nat) (vs:List V) (H:Hp) (Q:VK) (E_:XK):Prop
 | mk (B a:Addr) (nm:List Nat) (lf p:Sh) (n:Nat) (h0:vs=[.ref B,.ref a,.int n]) (h1:LM K H B a nm lf p n m) (h2:∀ D H',Yj H H'->H D=none->cW H' D (en (aF [(nm,lf)]) (.many p) n)->Q (.ref D) H')
theorem QN {K:Ι} {vs:List V} {H:Hp} {Q:VK} {E:XK} (h:cI K 0 vs H Q E):False:=by
 obtain ⟨_,_,_,_,_,n,_,h,_⟩:=h;have:=h.lv;omega
theorem KC {K:Ι} {vs:List V} {H:Hp} {Q:VK} {E:XK} (h:pQ K 0 vs H Q E):False:=by
 obtain ⟨_,_,_,_,_,n,_,h,_⟩:=h;have:=h.lv;omega
theorem Q6 {K:Ι} {vs:List V} {H:Hp} {Q:VK} {E:XK} (h:pR K 0 vs H Q E):False:=by
 obtain ⟨_,_,_,_,_,n,_,h,_⟩:=h;have:=h.lv;omega
theorem WH {α:Type} (G:Nat->List α) (i:Nat):(η (i+1)).flatMap G=(η i).flatMap G++G i:=by
 rw [cK,List.flatMap_append,List.flatMap_singleton]
theorem KD {α:Type} (G:Nat->List α) {i k:Nat} (h:i<=k):((η i).flatMap G).length<=((η k).flatMap G).length:=by
 induction h with
 | refl=>exact Κ _
 | step _ ih=>rw [WH,Μ];omega
theorem W6 {H:Hp}:∀ {vs:List V} {ds:List Ζ},vs.length=ds.length->(∀ (j:Nat) v d,vs[j]?=some v->ds[j]?=some d->DV H v d)->bw H vs ds
 | [],[],_,_ => .nil
 | v::vs,d::ds,hl,h => .cons (h 0 v d rfl rfl) (W6 (by simpa using hl) λj v' d' e1 e2=>h (j+1) v' d' e1 e2)
theorem Ux {bk:List Nat->Sh}:∀ {ps:List Sh} {s:Nat} {es:List Ζ},es∈bL bk ps s->es.length=ps.length
 | [],s,es,h=>by
  rw [X6] at h
  split at h
  ·cases Ξ.mp h
   rfl
  ·cases h
 | p::ps,s,es,h=>by
  rw [XT,a9] at h
  obtain ⟨f,_,h⟩:=h;rw [aZ,a9] at h
  obtain ⟨d,_,h⟩:=h;obtain ⟨es',h',rfl⟩:=ar.mp h;rw [χ,χ,Ux h']
def jx (mk:List V->HO) (H0:Hp) (R:List (List Ζ)) (v:V) (d:Ζ) (D:Addr) (j:Nat) (y:V) (H:Hp):Prop:=∃ (a:Addr) (vs:List V) (es:List Ζ),y = .ref a/\a≠D/\H a=some (mk (v::vs))/\R[j]?=some es/\bw H0 (v::vs) (d::es)
theorem jx.same {mk:List V->HO} {H0:Hp} {R:List (List Ζ)} {v:V} {d:Ζ} {D:Addr} {j:Nat} {y:V} {H H':Hp} (h:jx mk H0 R v d D j y H) (s:Yj H H'):jx mk H0 R v d D j y H':=by
 obtain ⟨a,vs,es,rfl,h1,h2,h3,h4⟩:=h;exact ⟨a,vs,es,rfl,h1,s _ _ h2,h3,h4⟩
theorem jx.up {mk:List V->HO} {H0:Hp} {R:List (List Ζ)} {v:V} {d:Ζ} {D:Addr} {j:Nat} {y:V} {H:Hp} {zs':List V} (h:jx mk H0 R v d D j y H):jx mk H0 R v d D j y (upd H D (.lst zs')):=by
 obtain ⟨a,vs,es,rfl,h1,h2,h3,h4⟩:=h;exact ⟨a,vs,es,rfl,h1,by rw [Yh h1];exact h2,h3,h4⟩
theorem cW.app {H:Hp} {D:Addr} {xs zs:List V} {ds es:List Ζ} (h:H D=none) (h1:bw H xs ds) (h2:bw H zs es):cW (upd H D (.lst (xs++zs))) D (ds++es):=⟨_,Yc,(h1.append h2).keep (.aj h _)⟩
theorem Oh (n:Nat):¬ HT.aL (n+1) 0 (some 1)=0:=by
 rw [show (some (1:Int))=some ((1:Nat):Int) from rfl,HT.gq];omega
theorem Qm {g:TG} {tb:TS} {D:Ends} {σ:St} {H:Hp} {K:Ι} {tl:TE} (G:Addr->List V->Hp->Prop) (ha:∀ R:V->Hp->Prop,(∀ c xs H1,ao K H1 c xs->G c xs H1->R (.ref c) H1)->tl σ H R)
  (hb:∀ c xs H1,ao K H1 c xs->G c xs H1->∃ Pv:Nat->St->Hp->Prop,Pv 0 σ H1/\(∀ i σ H,i<=xs.length->Pv i σ H->ao K H c xs)/\(∀ (i:Nat) x σ H,xs[i]?=some x->Pv i σ H->g x σ H λσ2 H2=>tb { D with nx:=Pv (i+1),ct:=Pv (i+1),bk:=D.nx } σ2 H2)/\∀ σ H,Pv xs.length σ H->D.nx σ H):WJ (Wb K tl) g tb D σ H:=by
 refine ha _ λc xs H1 hS hG=>?_
 obtain ⟨Pv,h0,hl,hs,hd⟩:=hb c xs H1 hS hG;exact ⟨c,rfl,⟨xs,hS⟩,UD Pv h0 hl hs hd⟩
theorem KH {k:Nat}  (R:g.Raw "_law_rows" "_law_rows" xY ["_law_book","_law_parts","_law_size_here"]) (Ax:g.Fn k "_law_rows" ["_law_book","_law_parts","_law_size_here"] (pQ g.K m)) (gn:g.Fn k "_law_all" ["_law_book","_law_shape_here","_law_size_here"] (cI g.K m)) (gC:g.mg "int"=none) (Zj:g.mg "range"=none):g.Fn (k+1) "_law_rows" ["_law_book","_law_parts","_law_size_here"] (pQ g.K (m+1)):=by
 refine R.fn lV (λvs H Q E h=>by obtain ⟨B,T,nm,lf,ps,n,rfl,L,q⟩:=h;rfl) λf_ cdv A outer s H vs Q E hr h=>?_
 obtain ⟨B,T,nm,lf,ps,n,rfl,L,q⟩:=h;refine ⟨_,(Ye (YF (Yq (wQ hr.units) (pv 1) (Y9 Yd) (Ys _)) (Yi (Yn (Yr YQ (YR (Ya (YR Yd) (Ya (YR (Ya (Y9 Yd) Yd (Wl _ _ _ _ _))) Yd (UJ _ _ _ _)) (UJ _ _ _ _))) (U6 gC Pu (Ya (Vl YK (pv 2) Yg (Ys _)) Yd))))) Yw) (Ye (Yp (i:=3) lV.nd rfl (.inl rfl) (YR Yd)) (Ye (Xp ai rfl (Y7 rfl Zj (Ya (Yl YW (pv 2) Yg) Yd)) (Yu (i:=4) lV.nd rfl (.inl rfl)) (Ye (Yp (i:=5) lV.nd rfl (.inl rfl) (Yz Ax hr (Ya (pv 0) (Ya (Ep Ru (pv 1) (Qr Yg) Rr) (Ya (Yl Y2 (pv 2) (pv 4)) Yd))))) (Yi (Xp ai rfl (Xc (Yz gn hr (Ya (pv 0) (Ya (Yr YC (pv 1) Yg) (Ya (pv 4) Yd))))) (Yu (i:=6) lV.nd rfl (.inr rfl)) (Yi (Yp (i:=3) lV.nd rfl (.inl rfl) (Yl VZ (pv 3) (Xt (src:=[none,some 6]) (N':=(["_law_rest","_law_thing"]:List Str)) (g:=Yy 0) (.own (.cap (i:=6) rfl rfl (by first | exact .inl rfl | exact .inr rfl) .nil)) rfl (Xc (pv 5)) (λcl C s₀ H₀ fp pn=>(Yu (i:=0) (show ax (["_law_rest","_law_thing"]:List Str) by decide +kernel) rfl (.inl rfl) (.inr rfl))) (λcl C s₀ H₀ fp pn=>Y0) (λcl C s₀ H₀ fp pn=>(Yl Yd0 (Y9 (Ya (pv 1) Yd)) (pv 0))))))))))) (Yi (Yn (pv 3)))))),?_⟩;walk_at "rd";refine ⟨few (by decide),λp hp=>⟨_,L.hk.keep (.aj hp _),.tuple [],.tup (aH.of Yc) .nil,Ο L.d8 (by decide),?_⟩⟩;have sp:=Yj.aj hp (.tup [])
 cases ps with
 | nil =>
  refine We (by rw [bJ];rfl) ⟨few (by decide),λp1 h1=>⟨few (by decide),λp2 h2=>⟨few (by decide),λp3 h3=>⟨few (by decide),λp4 h4 => .inr ?_⟩⟩⟩⟩;have s1:=sp.trans (.aj h1 (.lst []));have s2:=s1.trans (.aj h2 (.tup []));have s3:=s2.trans (.aj h3 (.lst [.ref p2]));have s4:=s3.trans (.aj h4 (.lst [.ref p1,.ref p3]));by_cases c:n=0
  ·subst c
   refine ⟨_,ao.of Yc,.ref p3,rfl,q p3 _ s4 (s2.free h3) ?_⟩;rw [X6];refine ⟨[.ref p2],?_,.cons (.tup (vs:=[]) ?_ (by decide) .nil) .nil⟩
   ·exact (Yj.aj h4 _) _ _ Yc
   ·exact (Yj.aj h4 _) _ _ ((Yj.aj h3 _) _ _ Yc)
  ·rw [if_neg (by omega)]
   refine ⟨_,ao.of Yc,.ref p1,rfl,q p1 _ s4 (sp.free h1) ?_⟩;rw [X6,if_neg c];exact ⟨[],(Yj.aj h4 _) _ _ ((Yj.aj h3 _) _ _ ((Yj.aj h2 _) _ _ Yc)),.nil⟩
 | cons s ps =>
  refine Y6 (by rw [bJ];intro z;cases z) ⟨few (by decide),λD hD=>?_⟩;obtain ⟨_,vs,e,hT,hvs⟩:=Xd L.hk
  cases V.ref.inj e
  rw [bJ] at hvs
  obtain ⟨v,r,rfl,hv,hr⟩:=YH hvs;obtain ⟨a,rfl,hv⟩:=Uf hv;have d8:=L.d8;have hdp:=L.dp;have jy:=L.lv;have hl3:=L.l3;have hn:=L.hn;have ab:=L.ab;have hb:=ab.lb n hn;have ok:=L.ok;rw [dJ] at ab
  rw [Xe] at ok
  rw [YG] at hdp jy
  rw [χ] at jy hl3
  rw [bJ,υ,δ] at d8
  rw [XT] at hb q
  generalize hG:(λf=>aZ bX (en (aF [(nm,lf)]) s f) (bL (aF [(nm,lf)]) ps (n - f)))=G at hb q;have sD:=sp.trans (.aj hD (.lst []));refine XN (n:=n+1) (λi σ H'=>∃ D o4 o5 o6,σ=[some (.ref B),some (.ref T),some (.int n),some (.ref D),o4,o5,o6]/\Yj H H'/\H D=none/\cW H' D (((η i).flatMap G).map .tuple)) (λR r=>by walk_at "rd";exact r) (by omega) ⟨D,_,_,_,rfl,sD,sp.free hD,[],Yc,.nil⟩ ?_ ?_
  ·rintro i σ H1 hi ⟨D,o4,o5,o6,rfl,s1,gD,hL⟩
   have hr1:=hr.keep s1;walk_at "rd";refine ⟨T,_,rfl,s1.tup hT,λz=>absurd z.1 (Oh _),λt ht=>?_⟩;rw [show (some (1:Int))=some ((1:Nat):Int) from rfl,Td];have sT:=Yj.aj ht (.tup r);have hdl:(YG ps)<=max (dep s) (YG ps):=Nat.le_max_right _ _;have afh:(dep s)<=max (dep s) (YG ps):=Nat.le_max_left _ _;refine ⟨B,t,nm,lf,ps,n - i,by rw [show ((n - i:Nat):Int)=(n:Int) - (i:Int) by omega],⟨L.lb.keep (s1.trans sT),.tup (aH.of Yc) (hr1.keep sT),?_,ok.2,ab.2.1,by omega,by omega,by omega,by omega⟩,λD5 H5 s5 g5 gW=>?_⟩
   ·rw [υ]
    omega
   obtain ⟨rs,h5,hrs⟩:=gW;have mD:=sT.trans s5;refine Qm (K:=g.K) (λc xs H'=>Yj H5 H'/\H' c=some (.lst xs)/\bw H' xs (en (aF [(nm,lf)]) s i)) (λR r=>?_) ?_
   ·walk_at "rd"
    refine ⟨_,mD.tup (s1.tup hT),_,Yo (j:=0) rfl,B,a,nm,lf,s,i,rfl,⟨L.lb.keep (s1.trans mD),⟨hv.keep (s1.trans mD),X3 s,by omega⟩,ok.1,ab.1,by omega,by omega,by omega⟩,λc H6 s6 _ pU=>?_⟩;obtain ⟨xs,hc,hxs⟩:=pU;exact r c xs H6 (ao.of hc) ⟨s6,hc,hxs⟩
   ·rintro c xs H6 hS ⟨s6,hc,hxs⟩
    refine ⟨λj σ H'=>∃ D' o6,σ=[some (.ref B),some (.ref T),some (.int n),some (.ref D'),some (.int i),some (.ref D5),o6]/\Yj H6 H'/\H D'=none/\cW H' D' (((η i).flatMap G++aZ bX ((en (aF [(nm,lf)]) s i).take j) (bL (aF [(nm,lf)]) ps (n - i))).map .tuple),⟨D,_,rfl,.refl _,gD,?_⟩,λj σ H' _ ⟨_,_,_,s,_⟩=>s.seq hS,?_,?_⟩
    ·rw [eC,aZ,List.flatMap_nil,a4]
     exact hL.keep (mD.trans s6)
    ·rintro j x σ H7 hx ⟨D',o6,rfl,s7,pW,hL'⟩
     obtain ⟨d,hd,hxd⟩:=hxs.at hx;obtain ⟨fs,hf,hfs⟩:=hL';walk_at "rd";have iY:=s6.trans s7;refine UK (K:=g.K) (xs:=rs) (jx HO.tup H7 (bL (aF [(nm,lf)]) ps (n - i)) x d) (λD j y H H' hR s=>hR.same s) (λD j y H zs zs' hR hp=>hR.up) (λR r=>by walk_at "rd";exact r) (ao.of (iY _ _ h5)) ?_ ?_ ?_
     ·have:=ab.2.1.lb (n - i) (by omega)
      rw [hrs.length,Β];omega
     ·intro E k y H' zs hy sm hE R r
      obtain ⟨e,he,Ay⟩:=hrs.at hy;rw [Λ] at he
      obtain ⟨es,he',rfl⟩:=ε.mp he;have hel:=Ux (Τ he');obtain ⟨b,ws,rfl,hb2,hwl,hws⟩:=Ay.rR;have rY:=hws.length;walk_at "rd";have uK:bw H7 (x::ws) (d::es) := .cons (hxd.keep s7) (hws.keep iY);have hbH:=sm _ _ (iY _ _ hb2);refine ⟨few (by decide),λp2 hp2=>?_⟩;have jz:=Yj.aj hp2 (.tup [x]);refine ⟨p2,b,[x],ws,rfl,rfl,aH.of Yc,aH.of (jz _ _ hbH),few (by rw [av];omega),λz=>(by cases z),λ_ z=>?_,λ_ _ p3 hp3=>?_⟩
      ·subst z
       exact r _ _ jz ⟨p2,[],es,rfl,(Ym hE hp2).symm,Yc,he',uK⟩
      ·exact r _ _ (jz.trans (.aj hp3 _)) ⟨p3,ws,es,rfl,(Ym (jz _ _ hE) hp3).symm,Yc,he',uK⟩
     ·intro E ys H' hE sm hd' hyl hys
      refine ⟨E,rfl,fs,sm _ _ hf,ys,hd',few ?_,λP hP=>⟨s7.trans (sm.trans (.aj hP _)),(s1.trans mD).free (iY.free (sm.free hP)),?_⟩⟩
      ·have:=KD G (show i+1<=n+1 by omega)
       have p1:=Aw (bX (α:=Ζ)) (en (aF [(nm,lf)]) s i) (bL (aF [(nm,lf)]) ps (n - i)) (j+1);have e1:=hfs.length;have e2:=hrs.length;have e3:(G i).length=(aZ bX (en (aF [(nm,lf)]) s i) (bL (aF [(nm,lf)]) ps (n - i))).length:=by rw [<- hG]
       rw [WH,Μ] at this
       rw [Ww _ hd,Μ,Β] at p1
       rw [Β,Μ] at e1
       rw [Β] at e2
       omega
      ·rw [Ww _ hd,<- bu,a8]
       refine cW.app hP (hfs.keep sm) (W6 ?_ λk y z hy hz=>?_)
       ·rw [hyl,hrs.length,Β,Β,Β]
       ·obtain ⟨a1,vs1,es1,rfl,_,ha1,pX,hv1⟩:=hys k y hy
        rw [Λ,Λ,pX] at hz
        cases Γ hz
        exact .tup ha1 (by have:=hv1.length;rw [this,χ,Ux (Τ pX)];omega) (hv1.keep sm)
    ·rintro σ H7 ⟨D',o6,rfl,s7,pW,hL'⟩
     rw [hxs.length,di,show aZ bX (en (aF [(nm,lf)]) s i) (bL (aF [(nm,lf)]) ps (n - i))=G i by rw [<- hG],<- WH] at hL'
     exact ⟨D',_,_,_,rfl,(s1.trans mD).trans (s6.trans s7),pW,hL'⟩
  ·rintro σ H1 ⟨D,o4,o5,o6,rfl,s1,gD,hL⟩
   walk_at "rd";exact q D H1 s1 gD hL
theorem QO {G:Nat->List Ζ}:∀ {n:Nat} {es:List Ζ},es∈bZ G n->es.length<=n:=by
 intro n
 induction n using Nat.strongRecOn with
 | ind n ih =>
  intro es h
  cases n with
  | zero =>
   rw [bZ] at h
   cases Ξ.mp h
   exact Κ _
  | succ n =>
   rw [XA,a9] at h
   obtain ⟨f,hf,h⟩:=h;rw [aZ,a9] at h
   obtain ⟨d,_,h⟩:=h;obtain ⟨es',h',rfl⟩:=ar.mp h;have:=ih (n - f) (by omega) h';rw [χ];omega
theorem KJ {k:Nat}  (R:g.Raw "_law_lists" "_law_lists" xZ ["_law_book","_law_part","_law_size_here"]) (Az:g.Fn k "_law_lists" ["_law_book","_law_part","_law_size_here"] (pR g.K m)) (gn:g.Fn k "_law_all" ["_law_book","_law_shape_here","_law_size_here"] (cI g.K m)) (Zj:g.mg "range"=none):g.Fn (k+1) "_law_lists" ["_law_book","_law_part","_law_size_here"] (pR g.K (m+1)):=by
 refine R.fn lW (λvs H Q E h=>by obtain ⟨B,a,nm,lf,p,n,rfl,L,q⟩:=h;rfl) λf_ cdv A outer s H vs Q E hr h=>?_
 obtain ⟨B,a,nm,lf,p,n,rfl,L,q⟩:=h;refine ⟨_,(Ye (YF (Yq YK (pv 2) Yg (Ys _)) (Yi (Yn (YR (Ya (YR Yd) Yd (UJ _ _ _ _))))) Yw) (Ye (Yp (i:=3) lW.nd rfl (.inl rfl) (YR Yd)) (Ye (Xp ai rfl (Y7 rfl Zj (Ya (pv 2) Yd)) (Yu (i:=4) lW.nd rfl (.inl rfl)) (Ye (Yp (i:=5) lW.nd rfl (.inl rfl) (Yz Az hr (Ya (pv 0) (Ya (pv 1) (Ya (Yl Y2 (Yl Y2 (pv 2) Yg) (pv 4)) Yd))))) (Yi (Xp ai rfl (Xc (Yz gn hr (Ya (pv 0) (Ya (pv 1) (Ya (pv 4) Yd))))) (Yu (i:=6) lW.nd rfl (.inr rfl)) (Yi (Yp (i:=3) lW.nd rfl (.inl rfl) (Yl VZ (pv 3) (Xt (src:=[none,some 6]) (N':=(["_law_rest","_law_thing"]:List Str)) (g:=Yy 0) (.own (.cap (i:=6) rfl rfl (by first | exact .inl rfl | exact .inr rfl) .nil)) rfl (Xc (pv 5)) (λcl C s₀ H₀ fp pn=>(Yu (i:=0) (show ax (["_law_rest","_law_thing"]:List Str) by decide +kernel) rfl (.inl rfl) (.inr rfl))) (λcl C s₀ H₀ fp pn=>Y0) (λcl C s₀ H₀ fp pn=>(Yl VZ (YR (Ya (pv 1) Yd)) (pv 0))))))))))) (Yi (Yn (pv 3)))))),?_⟩;walk_at "rd";refine Xv (λc=>?_) (λc=>?_)
 ·have e:n=0:=by omega
  subst e;refine ⟨few (by decide),λp1 h1=>⟨few (by decide),λp2 h2=>?_⟩⟩;have s1:=Yj.aj h1 (.lst []);have s2:=Yj.aj h2 (.lst [.ref p1]);refine q p2 _ (s1.trans s2) (s1.free h2) ?_;rw [Xo,VG];exact ⟨_,Yc,.cons (.lst (vs:=[]) (s2 _ _ Yc) (by decide) .nil) .nil⟩
 ·obtain ⟨k,rfl⟩:∃ k,n=k+1:=⟨n - 1,by omega⟩
  have hn:=L.hn;have jy:=L.lv;have hdp:=L.dp;have hb:=L.lm (k+1) hn;rw [Xo,Β,XA] at hb
  rw [Xo,XA] at q
  generalize hG:(λf=>aZ bX (en (aF [(nm,lf)]) p f) (bZ (en (aF [(nm,lf)]) p) (k - f)))=G at hb q;refine ⟨few (by decide),λD hD=>?_⟩;have sD:=Yj.aj hD (.lst []);refine XN (n:=k+1) (λi σ H'=>∃ D o4 o5 o6,σ=[some (.ref B),some (.ref a),some (.int (k+1:Nat)),some (.ref D),o4,o5,o6]/\Yj H H'/\H D=none/\cW H' D (((η i).flatMap G).map .list)) (λR r=>by walk_at "rd";exact r) (by omega) ⟨D,_,_,_,rfl,sD,hD,[],Yc,.nil⟩ ?_ ?_
  ·rintro i σ H1 hi ⟨D,o4,o5,o6,rfl,s1,gD,hL⟩
   have hbm:=L.lm (k - i) (by omega);rw [Xo,Β] at hbm
   walk_at "rd";refine ⟨B,a,nm,lf,p,k - i,by rw [show ((k - i:Nat):Int)=((k+1:Nat):Int) - 1 - (i:Int) by omega],⟨L.lb.keep s1,L.hk.keep s1,L.ok,L.ab,L.lm,by omega,by omega,by omega⟩,λD5 H5 s5 g5 gW=>?_⟩;rw [Xo] at gW
   obtain ⟨rs,h5,hrs⟩:=gW;refine Qm (K:=g.K) (λc xs H'=>Yj H5 H'/\H' c=some (.lst xs)/\bw H' xs (en (aF [(nm,lf)]) p i)) (λR r=>?_) ?_
   ·walk_at "rd"
    refine ⟨B,a,nm,lf,p,i,rfl,⟨L.lb.keep (s1.trans s5),L.hk.keep (s1.trans s5),L.ok,L.ab,by omega,by omega,by omega⟩,λc H6 s6 _ pU=>?_⟩;obtain ⟨xs,hc,hxs⟩:=pU;exact r c xs H6 (ao.of hc) ⟨s6,hc,hxs⟩
   ·rintro c xs H6 hS ⟨s6,hc,hxs⟩
    refine ⟨λj σ H'=>∃ D' o6,σ=[some (.ref B),some (.ref a),some (.int (k+1:Nat)),some (.ref D'),some (.int i),some (.ref D5),o6]/\Yj H6 H'/\H D'=none/\cW H' D' (((η i).flatMap G++aZ bX ((en (aF [(nm,lf)]) p i).take j) (bZ (en (aF [(nm,lf)]) p) (k - i))).map .list),⟨D,_,rfl,.refl _,gD,?_⟩,λj σ H' _ ⟨_,_,_,s,_⟩=>s.seq hS,?_,?_⟩
    ·rw [eC,aZ,List.flatMap_nil,a4]
     exact hL.keep (s5.trans s6)
    ·rintro j x σ H7 hx ⟨D',o6,rfl,s7,pW,hL'⟩
     obtain ⟨d,hd,hxd⟩:=hxs.at hx;obtain ⟨fs,hf,hfs⟩:=hL';have iY:=s6.trans s7;walk_at "rd";refine UK (K:=g.K) (xs:=rs) (jx HO.lst H7 (bZ (en (aF [(nm,lf)]) p) (k - i)) x d) (λD j y H H' hR s=>hR.same s) (λD j y H zs zs' hR hp=>hR.up) (λR r=>by walk_at "rd";exact r) (ao.of (iY _ _ h5)) ?_ ?_ ?_
     ·rw [hrs.length,Β]
      omega
     ·intro E t y H' zs hy sm hE R r
      obtain ⟨e,he,Ay⟩:=hrs.at hy;rw [Λ] at he
      obtain ⟨es,he',rfl⟩:=ε.mp he;have hel:=QO (Τ he');obtain ⟨b,ws,rfl,hb2,hwl,hws⟩:=Ay.rQ;have rY:=hws.length;walk_at "rd";have uK:bw H7 (x::ws) (d::es) := .cons (hxd.keep s7) (hws.keep iY);have hbH:=sm _ _ (iY _ _ hb2);refine ⟨few (by decide),λp2 hp2=>?_⟩;have jz:=Yj.aj hp2 (.lst [x]);exact ⟨_,Yc,ws,jz _ _ hbH,few (by rw [av];omega),λp3 hp3=>r _ _ (jz.trans (.aj hp3 _)) ⟨p3,ws,es,rfl,(Ym (jz _ _ hE) hp3).symm,Yc,he',uK⟩⟩
     ·intro E ys H' hE sm hd' hyl hys
      refine ⟨E,rfl,fs,sm _ _ hf,ys,hd',few ?_,λP hP=>⟨s7.trans (sm.trans (.aj hP _)),(s1.trans s5).free (iY.free (sm.free hP)),?_⟩⟩
      ·have:=KD G (show i+1<=k+1 by omega)
       have p1:=Aw (bX (α:=Ζ)) (en (aF [(nm,lf)]) p i) (bZ (en (aF [(nm,lf)]) p) (k - i)) (j+1);have e1:=hfs.length;have e2:=hrs.length;have e3:(G i).length=(aZ bX (en (aF [(nm,lf)]) p i) (bZ (en (aF [(nm,lf)]) p) (k - i))).length:=by rw [<- hG]
       rw [WH,Μ] at this
       rw [Ww _ hd,Μ,Β] at p1
       rw [Β,Μ] at e1
       rw [Β] at e2
       omega
      ·rw [Ww _ hd,<- bu,a8]
       refine cW.app hP (hfs.keep sm) (W6 ?_ λt y z hy hz=>?_)
       ·rw [hyl,hrs.length,Β,Β,Β]
       ·obtain ⟨a1,vs1,es1,rfl,_,ha1,pX,hv1⟩:=hys t y hy
        rw [Λ,Λ,pX] at hz
        cases Γ hz
        have hel:=QO (Τ pX);exact .lst ha1 (by have:=hv1.length;rw [this,χ];omega) (hv1.keep sm)
    ·rintro σ H7 ⟨D',o6,rfl,s7,pW,hL'⟩
     rw [hxs.length,di,show aZ bX (en (aF [(nm,lf)]) p i) (bZ (en (aF [(nm,lf)]) p) (k - i))=G i by rw [<- hG],<- WH] at hL'
     exact ⟨D',_,_,_,rfl,(s1.trans s5).trans (s6.trans s7),pW,hL'⟩
  ·rintro σ H1 ⟨D,o4,o5,o6,rfl,s1,gD,hL⟩
   walk_at "rd";exact q D H1 s1 gD hL
theorem Xi {K:Ι} {H:Hp} {a:Addr} {x y:Str} {vs:List V} {A B:Prop} (hT:aH K H a (.str x::vs)) (hne:x≠y) (h:B):jq (aH K H a) 0 λv=>Qp v (.str y)=true/\if v = .str y then A else B:=⟨_,hT,_,Yo (j:=0) rfl,YA _ _,Y6 (λz=>hne (V.str.inj z)) h⟩
theorem Uy {K:Ι} {H:Hp} {a:Addr} {x:Str} {vs:List V} {A B:Prop} (hT:aH K H a (.str x::vs)) (h:A):jq (aH K H a) 0 λv=>Qp v (.str x)=true/\if v = .str x then A else B:=⟨_,hT,_,Yo (j:=0) rfl,YA _ _,We rfl h⟩
theorem KN {sg:List Nat} {x:List Nat}:∀ {s:Nat},x∈bU sg s->∀ c∈x,c∈sg
 | 0,h,c,hc=>by
  cases Ξ.mp h
  cases hc
 | s+1,h,c,hc=>by
  rw [bU,aZ,a9] at h
  obtain ⟨y,hy,h⟩:=h;obtain ⟨e,he,rfl⟩:=ar.mp h;rcases bg.mp hc with hc | hc
  ·exact KN hy c hc
  ·cases Ξ.mp hc
   exact he
theorem KQ {α:Type} {H:Hp} {D:Addr} {l:List α} {f:α->V} {g:α->Ζ} (h:H D=some (.lst (l.map f))) (hv:∀ x∈l,DV H (f x) (g x)):cW H D (l.map g):=by
 refine ⟨_,h,W6 (by rw [Β,Β]) λj v d e1 e2=>?_⟩;rw [Λ] at e1 e2
 obtain ⟨x,hx,rfl⟩:=ε.mp e1;rw [hx] at e2
 cases Γ e2
 exact hv x (Τ hx)
theorem KR {bk:List Nat->Sh} {p:Sh}:∀ {ps:List Sh},dJ bk ps->p∈ps->Ab bk p
 | q::ps,h,hm=>by
  rw [dJ] at h
  rcases Φ.mp hm with rfl | hm
  ·exact h.1
  ·exact KR h.2.1 hm
theorem QP {bk:List Nat->Sh} {s:Nat}:∀ {mk:List (List Nat)} {ps:List Sh} (i:Nat),mk.length=ps.length->bW bk mk ps s=bW bk (mk.take i) (ps.take i) s++bW bk (mk.drop i) (ps.drop i) s
 | mk,ps,0,_=>by
  rw [eC,eC,List.drop_zero,List.drop_zero,show bW bk [] [] s=[] by rw [bW,cC]];rfl
 | [],[],i+1,_=>by
  rw [List.take_nil,List.take_nil,List.drop_nil,List.drop_nil,show bW bk [] [] s=[] by rw [bW,cC]];rfl
 | m::mk,p::ps,i+1,h=>by
  rw [XJ,fS,fS,XJ,List.drop_succ_cons,List.drop_succ_cons,bu];exact congrArg _ (QP (mk:=mk) i (by simpa using h))
theorem KY {bk:List Nat->Sh} {s:Nat} {mk:List (List Nat)} {ps:List Sh} {i:Nat} {m:List Nat} {p:Sh} (h:mk.length=ps.length) (hm:mk[i]?=some m) (hp:ps[i]?=some p):bW bk (mk.take (i+1)) (ps.take (i+1)) s=bW bk (mk.take i) (ps.take i) s++(en bk p s).map λd => .tuple [.str (S m),d]:=by
 have hl:=(Η.mp hm).1;rw [QP i (by rw [ay,ay,h]),List.take_take,List.take_take,ij (dm i),Y4 hm,Y4 hp,List.drop_append_of_le_length (by rw [ay];omega),List.drop_append_of_le_length (by rw [ay];omega),bt (by rw [ay];omega),bt (by rw [ay];omega),ik,ik,XJ,show bW bk ([m]:List (List Nat)).tail [] s=[] by rw [bW,cC],a4];rfl
def RpP (k:Nat) (xs:List V) (D:Addr) (j:Nat) (y:V) (H:Hp):Prop:=∃ (a:Addr) (v:V),y = .ref a/\a≠D/\H a=some (.lst (ft k v))/\xs[j]?=some v
def MkP (m:Str) (xs:List V) (j:Nat) (y:V) (H:Hp):Prop:=∃ (a:Addr) (v:V),y = .ref a/\H a=some (.tup [.str m,v])/\xs[j]?=some v
theorem KZ {k:Nat}  (R:g.Raw "_law_all" "_law_all" yd ["_law_book","_law_shape_here","_law_size_here"]) (lB:g.Fn k "_law_texts" ["_law_signs","_law_size_here"] (j7)) (jD:g.Fn k "_law_numbers" ["_law_low","_law_high","_law_size_here"] (Kz)) (Ax:g.Fn k "_law_rows" ["_law_book","_law_parts","_law_size_here"] (pQ g.K m)) (Az:g.Fn k "_law_lists" ["_law_book","_law_part","_law_size_here"] (pR g.K m)) (gn:g.Fn k "_law_all" ["_law_book","_law_shape_here","_law_size_here"] (cI g.K m)) (fj:g.mg "dict"=none) (Zj:g.mg "range"=none):g.Fn (k+1) "_law_all" ["_law_book","_law_shape_here","_law_size_here"] (cI g.K (m+1)):=by
 refine R.fn lX (λvs H Q E h=>by obtain ⟨B,a,nm,lf,sh,n,rfl,L,q⟩:=h;rfl) λf_ cdv A outer s H vs Q E hr h=>?_
 obtain ⟨B,a,nm,lf,sh,n,rfl,L,q⟩:=h;have hu:=EY hr;refine ⟨_,(Ye (YF (Yq YK (Yr YC (pv 1) Yg) YM (Ys _)) (Yi (Yn (Yz jD hr (Ya (Yr YC (pv 1) Yg) (Ya (Yr YC (pv 1) Yg) (Ya (pv 2) Yd)))))) Yw) (Ye (YF (Yq YK (Yr YC (pv 1) Yg) YM (Ys _)) (Yi (Yn (Yz lB hr (Ya (Yr YC (pv 1) Yg) (Ya (pv 2) Yd))))) Yw) (Ye (YF (Yq YK (Yr YC (pv 1) Yg) YM (Ys _)) (Yi (Yn (Yz Ax hr (Ya (pv 0) (Ya (Yr YC (pv 1) Yg) (Ya (pv 2) Yd)))))) Yw) (Ye (YF (Yq YK (Yr YC (pv 1) Yg) YM (Ys _)) (Yi (Yn (Yz Az hr (Ya (pv 0) (Ya (Yr YC (pv 1) Yg) (Ya (pv 2) Yd)))))) Yw) (Ye (YF (Yq YK (Yr YC (pv 1) Yg) YM (Ys _)) (Ye (YF (Yq YK (pv 2) Yg (Ys _)) (Yi (Yn (YR Yd))) Yw) (Yi (Yn (Yz gn hr (Ya (pv 0) (Ya (RX (EY hr) (U6 fj QB (Ya (pv 0) Yd)) (Yr YC (pv 1) Yg) (λ_ _=>rfl)) (Ya (Yl Y2 (pv 2) Yg) Yd))))))) Yw) (Ye (YF (Yq YK (Yr YC (pv 1) Yg) YM (Ys _)) (Ye (YF (Vs (Yq UV (pv 2) (Yr YC (pv 1) Yg) (Ys _)) (Vh (Yq vV (Yl Xg (pv 2) (Yr YC (pv 1) Yg)) Yg (Ys _)))).pt (Yi (Yn (YR Yd))) Yw) (Ye (Yp (i:=3) lX.nd rfl (.inl rfl) (Yz gn hr (Ya (pv 0) (Ya (Yr YC (pv 1) Yg) (Ya (Yl Y2 (Yl Y1 (pv 2) (Yr YC (pv 1) Yg)) Yg) Yd))))) (Yi (Yn (YgJ (yc:=("_law_thing":Str)) (src:=[none,some 1]) (N':=(["_law_thing","_law_shape_here"]:List Str)) (g:=Yy 0) (.own (.cap (i:=1) rfl rfl (by first | exact .inl rfl | exact .inr rfl) .nil)) rfl (Xc (pv 3)) (λcl C s₀ H₀ fp pn=>(Yu (i:=0) (show ax (["_law_thing","_law_shape_here"]:List Str) by decide +kernel) rfl (.inr rfl) (.inl rfl))) (λcl C s₀ H₀ fp pn=>Y0) (λcl C s₀ H₀ fp pn=>(Xt (src:=[none,some 0]) (N':=(["_law_k","_law_thing"]:List Str)) (g:=Yy 0) (.own (.cap (i:=0) rfl rfl (by first | exact .inl rfl | exact .inr rfl) .nil)) rfl (Y7 rfl Zj (Ya (Yr (Qw (K:=g.K)) (pv 1) Yg) Yd)) (λcl C s₀ H₀ fp pn=>(Yu (i:=0) (show ax (["_law_k","_law_thing"]:List Str) by decide +kernel) rfl (.inl rfl) (.inr rfl))) (λcl C s₀ H₀ fp pn=>Y0) (λcl C s₀ H₀ fp pn=>(pv 1)) (by intro x hx;simp at hx;first | (subst hx;(first | exact .inl rfl | exact .inr rfl)) | (rcases hx with rfl | rfl<;>(first | exact .inl rfl | exact .inr rfl)) | (rcases hx with rfl | rfl | rfl<;>(first | exact .inl rfl | exact .inr rfl)) | (rcases hx with rfl | rfl | rfl | rfl<;>(first | exact .inl rfl | exact .inr rfl)) | (rcases hx with rfl | rfl | rfl | rfl | rfl<;>(first | exact .inl rfl | exact .inr rfl))))) (by intro x hx;simp at hx;first | (subst hx;(first | exact .inl rfl | exact .inr rfl)) | (rcases hx with rfl | rfl<;>(first | exact .inl rfl | exact .inr rfl)) | (rcases hx with rfl | rfl | rfl<;>(first | exact .inl rfl | exact .inr rfl)) | (rcases hx with rfl | rfl | rfl | rfl<;>(first | exact .inl rfl | exact .inr rfl)) | (rcases hx with rfl | rfl | rfl | rfl | rfl<;>(first | exact .inl rfl | exact .inr rfl))) (by rfl) (by intro _ _;rfl) (by rfl) (by decide +kernel) (by decide +kernel) (by intro _;rfl)))))) Yw) (Ye (Yp (i:=4) lX.nd rfl (.inl rfl) (YR Yd)) (Ye (Xp ai rfl (UU (Yr YC (pv 1) Yg)) (VR (n:=2) rfl (Xz (Yu (i:=5) lX.nd rfl (.inr rfl)) (Xz (Yu (i:=6) lX.nd rfl (.inl rfl)) Vi))) (Yi (Yp (i:=4) lX.nd rfl (.inl rfl) (Yl VZ (pv 4) (Xt (src:=[none,some 5]) (N':=(["_law_thing","_law_mark"]:List Str)) (g:=Yy 0) (.own (.cap (i:=5) rfl rfl (by first | exact .inl rfl | exact .inr rfl) .nil)) rfl (Xc (Yz gn hr (Ya (pv 0) (Ya (pv 6) (Ya (pv 2) Yd))))) (λcl C s₀ H₀ fp pn=>(Yu (i:=0) (show ax (["_law_thing","_law_mark"]:List Str) by decide +kernel) rfl (.inl rfl) (.inr rfl))) (λcl C s₀ H₀ fp pn=>Y0) (λcl C s₀ H₀ fp pn=>(Y9 (Ya (pv 1) (Ya (pv 0) Yd))))))))) (Yi (Yn (pv 4))))))))))),?_⟩;have hk:=L.hk.den;have d8:=L.hk.dp;have ok:=L.ok;have ab:=L.ab;have hn:=L.hn;have hdp:=L.dp;have jy:=L.lv;walk_at "rd"
 cases sh with
 | w lo span =>
  rw [kd] at hk
  rw [Ab] at ab
  obtain ⟨b,vs,e,hT,hvs⟩:=Xd hk
  cases V.ref.inj e
  obtain ⟨u1,r1,rfl,h5,h6⟩:=YH hvs;obtain ⟨u2,r2,rfl,h7,h8⟩:=YH h6;obtain ⟨u3,r3,rfl,h9,h10⟩:=YH h8
  cases XV h10
  cases XF h5
  cases WS h7
  cases WS h9
  refine Uy hT ⟨_,hT,_,Yo (j:=1) rfl,_,hT,_,Yo (j:=2) rfl,lo,span,n,rfl,ab.1,hn,λD H' s hD h=>q D H' s hD ?_⟩;rw [pq];exact KQ h λr _=>⟨_,.int _⟩
 | t sg =>
  rw [kd] at hk
  rw [Ab] at ab
  rw [aG] at ok
  obtain ⟨v,hT,hv⟩:=Wj hk
  cases XF hv
  refine Xi hT (by decide +kernel) (Uy hT ⟨_,hT,_,Yo (j:=1) rfl,sg,n,rfl,ok.2.1,hn,λi hi=>?_,λD H' s hD h=>q D H' s hD ?_⟩)
  ·have:=ab i (by omega)
   rw [VH,Β] at this
   exact this
  ·rw [VH]
   exact KQ h λx hx=>⟨_,.str _ (Vq λc hc=>ok.2.2 c (KN hx c hc))⟩
 | row ps =>
  rw [kd] at hk d8
  rw [Ab] at ab
  rw [aG] at ok
  rw [dep] at hdp jy
  obtain ⟨v,hT,hv⟩:=Wj hk;obtain ⟨b,vs,rfl,hb,hvs⟩:=Xd hv;refine Xi hT (by decide +kernel) (Xi hT (by decide +kernel) (Uy hT ⟨_,hT,_,Yo (j:=1) rfl,B,b,nm,lf,ps,n,rfl,⟨L.lb,.tup hb hvs,?_,ok.2,ab.2.2,hn,by omega,ab.2.1,by omega⟩,λD H' s hD h=>q D H' s hD ?_⟩))
  ·simp only [υ,δ] at d8 ⊢
   omega
  ·rw [W1]
   exact h
 | many p =>
  rw [kd] at hk
  have d8':=VN (sh := .many p) L.ok (.head _);rw [Ab] at ab
  rw [aG] at ok
  rw [dep] at hdp jy
  obtain ⟨v,hT,hv⟩:=Wj hk;obtain ⟨b,rfl,hv⟩:=Uf hv;exact Xi hT (by decide +kernel) (Xi hT (by decide +kernel) (Xi hT (by decide +kernel) (Uy hT ⟨_,hT,_,Yo (j:=1) rfl,B,b,nm,lf,p,n,rfl,⟨L.lb,⟨hv,X3 p,by omega⟩,ok,ab.2,ab.1,hn,by omega,by omega⟩,λD H' s hD h=>q D H' s hD h⟩)))
 | use x =>
  rw [kd] at hk
  rw [aG] at ok
  obtain ⟨v,hT,hv⟩:=Wj hk
  cases XF hv
  have hx:x=nm:=by
   obtain ⟨q0,hq0⟩:=ok;rw [aT] at hq0
   split at hq0
   ·rename_i z
    exact (of_decide_eq_true z).symm
   ·cases hq0
  subst hx;refine Xi hT (by decide +kernel) (Xi hT (by decide +kernel) (Xi hT (by decide +kernel) (Xi hT (by decide +kernel) (Uy hT (Xv (λc=>?_) (λc=>?_))))))
  ·have e:n=0:=by omega
   subst e;refine ⟨few (by decide),λD hD=>q D _ (.aj hD _) hD ?_⟩;rw [Ur];exact ⟨[],Yc,.nil⟩
  ·obtain ⟨k,rfl⟩:∃ k,n=k+1:=⟨n - 1,by omega⟩
   have lb:=L.lb;obtain ⟨T,b,h1,h2,h3⟩:=L.lb.hB;rw [V9,show aF [(x,lf)] x=lf by unfold aF;rw [aT,decide_eq_true rfl];rfl] at q
   refine ⟨T,h1,_,_,h2,λd hd=>?_⟩;have sd:=Yj.aj hd (.dK [(fo (S x),V.ref b)]);have h0:=L.lb.d0;refine ⟨_,sd.tup hT,_,Yo (j:=1) rfl,.ref b,?_,B,b,x,lf,lf,k,by rw [show ((k+1:Nat):Int) - 1=(k:Int) by omega],⟨L.lb.keep sd,h3.keep sd,L.lb.ok,L.lb.ab,by omega,by omega,by omega⟩,λD H' s hD h=>q D H' (sd.trans s) (sd.free hD) h⟩;have:=V1.k (H:=upd H d (.dK [(fo (S x),V.ref b)])) (k:=fo (S x)) Yc
   rwa [show WK [((fo (S x):Key),V.ref b)] (fo (S x))=some (.ref b) by simp [WK]] at this
 | alike p k =>
  have d8':=VN (sh := .alike p k) L.ok (.head _);rw [kd] at hk
  rw [Ab] at ab
  rw [aG] at ok
  rw [dep] at hdp jy
  rw [W2] at q
  obtain ⟨b,vs,e,hT,hvs⟩:=Xd hk
  cases V.ref.inj e
  obtain ⟨u1,r1,rfl,h5,h6⟩:=YH hvs;obtain ⟨u2,r2,rfl,h7,h8⟩:=YH h6;obtain ⟨u3,r3,rfl,h9,h10⟩:=YH h8
  cases XV h10
  cases XF h5
  obtain ⟨b,rfl,hv⟩:=Uf h7
  cases WS h9
  refine Xi hT (by decide +kernel) (Xi hT (by decide +kernel) (Xi hT (by decide +kernel) (Xi hT (by decide +kernel) (Xi hT (by decide +kernel) (Uy hT ⟨_,hT,_,Yo (j:=2) rfl,_,rfl,Xv (λc=>?_) (λc=>⟨_,hT,_,Yo (j:=2) rfl,_,rfl,by omega,Xv (λc1=>?_) (λc1=>⟨_,hT,_,Yo (j:=1) rfl,_,hT,_,Yo (j:=2) rfl,_,rfl,?_⟩)⟩)⟩)))))
  ·refine ⟨few (by decide),λD hD=>q D _ (.aj hD _) hD ?_⟩
   rw [if_pos (.inl (by omega))];exact ⟨[],Yc,.nil⟩
  ·refine ⟨few (by decide),λD hD=>q D _ (.aj hD _) hD ?_⟩
   rw [if_pos (.inr (by omega))];exact ⟨[],Yc,.nil⟩
  ·rw [if_neg (by omega)] at q
   have hk1:1<=n / k:=(Nat.le_div_iff_mul_le (by omega)).mpr (by omega);have hk2:=cE n k;refine ⟨YS (by omega) (by omega),B,b,nm,lf,p,n / k - 1,by rw [show ((n / k - 1:Nat):Int)=(n:Int) / (k:Int) - 1 by rw [<- Int.natCast_ediv];omega],⟨L.lb,⟨hv,X3 p,by omega⟩,ok.1,ab.2.2,by omega,by omega,by omega⟩,λD5 H5 s5 g5 gW=>?_⟩;obtain ⟨xs,hd,hxs⟩:=gW;refine UK (K:=g.K) (xs:=xs) (RpP k xs) (λD j y H H' ⟨a,v,e,h1,h2,h3⟩ s=>⟨a,v,e,h1,s _ _ h2,h3⟩) (λD j y H zs zs' ⟨a,v,e,h1,h2,h3⟩ hp=>⟨a,v,e,h1,by rw [Yh h1];exact h2,h3⟩) (λR r=>by walk_at "rd";exact r) (ao.of hd) ?_ ?_ ?_
   ·have:=ab.2.2.lb (n / k - 1) (by omega)
    rw [hxs.length];omega
   ·intro E i x H' zs hx sm hE R r
    refine Tj (n:=k) (ft k x) (λR r=>?_) (by simp) (by omega) ?_ ?_
    ·walk_at "rd"
     exact ⟨_,sm.tup (s5.tup hT),_,Yo (j:=2) rfl,r⟩
    ·intro j y H2 hj hy s2 R r
     rw [List.getElem?_replicate,if_pos hj] at hy
     cases Γ hy
     walk_at "rd";exact r _ (.refl _)
    ·intro D2 H2 hD2 s2 h2
     exact r _ _ s2 ⟨D2,x,rfl,(Ym hE hD2).symm,h2,hx⟩
   ·intro E ys H' hE sm hd' hyl hys
    refine q E H' (s5.trans sm) (s5.free hE) ⟨ys,hd',W6 (by rw [hyl,Β,hxs.length]) λj y d hy K1=>?_⟩;obtain ⟨a1,v1,rfl,_,h2,h3⟩:=hys j y hy;obtain ⟨d1,hd1,hv1⟩:=hxs.at h3;rw [Λ,hd1] at K1
    cases Γ K1
    refine .lst h2 (by rw [d5];omega) (W6 (by rw [d5,d5]) λt u w hu hw=>?_);rw [List.getElem?_replicate] at hu hw
    split at hu
    ·rename_i c
     rw [if_pos c] at hw
     cases Γ hu
     cases Γ hw
     exact hv1.keep sm
    ·cases hu
 | pick mk ps =>
  rw [kd] at hk
  rw [Ab] at ab
  rw [aG] at ok
  rw [dep] at hdp jy
  rw [WR] at q
  obtain ⟨v,hT,hv⟩:=Wj hk;obtain ⟨b,vs,rfl,hb,hvs⟩:=Xd hv;obtain ⟨ts,bs,rfl,hl1,hl2,hts,hbs⟩:=VM ok.1 hvs;refine Xi hT (by decide +kernel) (Xi hT (by decide +kernel) (Xi hT (by decide +kernel) (Xi hT (by decide +kernel) (Xi hT (by decide +kernel) (Xi hT (by decide +kernel) ⟨few (by decide),λD hD=>?_⟩)))));have sD:=Yj.aj hD (.lst []);refine Gf (K:=g.K) (a:=b) (xs:=ts.map V.ref) (λi σ H'=>∃ D o3 o5 o6,σ=[some (.ref B),some (.ref a),some (.int n),o3,some (.ref D),o5,o6]/\Yj H H'/\H D=none/\cW H' D (bW (aF [(nm,lf)]) (mk.take i) (ps.take i) n)) (λR r=>by walk_at "rd";exact ⟨_,sD.tup hT,_,Yo (j:=1) rfl,r⟩) ⟨D,_,_,_,rfl,sD,hD,?_⟩ (λi σ H' _ ⟨_,_,_,_,_,s,_⟩=>s.tup hb) ?_ ?_
  ·rw [eC,eC,bW,cC]
   exact ⟨[],Yc,.nil⟩
  ·rintro i x σ H1 hx ⟨D,o3,o5,o6,rfl,s1,gD,hL⟩
   rw [Λ] at hx
   obtain ⟨T,hTi,rfl⟩:=ε.mp hx;have hi:=(Η.mp hTi).1;have hm:mk[i]?=some (mk[i]'(by omega)):=Ε _;have hp:ps[i]?=some (ps[i]'(by omega)):=Ε _;have hbi:bs[i]?=some (bs[i]'(by omega)):=Ε _;generalize mk[i]'(by omega)=mi at hm;generalize ps[i]'(by omega)=p at hp;generalize bs[i]'(by omega)=bi at hbi;have hTT:=hts i T mi bi hTi hm hbi;have hkp:=hbs i bi p hbi hp;have hpm:=Τ hp;have d8':=VN (sh := .pick mk ps) L.ok hpm;obtain ⟨fs,hf,hfs⟩:=hL;have hpa:Ab (aF [(nm,lf)]) p:=KR ab.2.2 hpm;have hdm:=X5 hpm;have okm:=Wu ok.2.2.1 hpm;have hlb:=hpa.lb n hn;walk_at "rd";refine ⟨_,s1.tup hTT,rfl,_,_,rfl,_,_,rfl,rfl,?_⟩;refine T6 (K:=g.K) (λc xs H'=>Yj H1 H'/\H' c=some (.lst xs)/\bw H' xs (en (aF [(nm,lf)]) p n)) (λR r=>?_) ?_
   ·walk_at "rd"
    refine ⟨B,bi,nm,lf,p,n,rfl,⟨L.lb.keep s1,⟨hkp.keep s1,X3 p,by omega⟩,okm,hpa,hn,by omega,by omega⟩,λc H6 s6 _ pU=>?_⟩;obtain ⟨xs,hc,hxs⟩:=pU;exact r c xs H6 (ao.of hc) ⟨s6,hc,hxs⟩
   ·rintro c xs H6 hS ⟨s6,hc,hxs⟩
    refine ⟨by rw [hxs.length];omega,λ_=>MkP (S mi) xs,λ_ j y H H' ⟨a,v,e,h1,h2⟩ s=>⟨a,v,e,s _ _ h1,h2⟩,λD j y H zs zs' ⟨a,v,e,h1,h2⟩ hp=>⟨a,v,e,by rw [Yh (by intro z;rw [z,hp] at h1;cases h1)];exact h1,h2⟩,?_,?_⟩
    ·intro E j y H' zs hy sm hE R r
     walk_at "rd";exact ⟨few (by decide),λp2 hp2=>r _ _ (.aj hp2 _) ⟨p2,y,rfl,Yc,hy⟩⟩
    ·intro E ys H' hE sm hd' hyl hys
     have uL:=s6.trans sm;refine ⟨E,rfl,fs,uL _ _ hf,ys,hd',few ?_,λP hP=>⟨s1.trans (uL.trans (.aj hP _)),s1.free (uL.free hP),?_⟩⟩
     ·have h0:=ab.1 n hn
      rw [WR,QP (i+1) ok.1,KY ok.1 hm hp,Μ,Μ,Β] at h0
      have:=hfs.length;have:=hxs.length;omega
     ·rw [KY ok.1 hm hp]
      refine cW.app hP (hfs.keep uL) (W6 (by rw [hyl,hxs.length,Β]) λj y z hy hz=>?_);obtain ⟨a1,v1,rfl,h2,h3⟩:=hys j y hy;obtain ⟨d1,hd1,hv1⟩:=hxs.at h3;rw [Λ,hd1] at hz
      cases Γ hz
      exact .tup h2 (by simp) (.cons ⟨_,.str _ (ok.2.2.2 mi (Τ hm))⟩ (.cons (hv1.keep sm) .nil))
  ·rintro σ H1 ⟨D,o3,o5,o6,rfl,s1,gD,hL⟩
   walk_at "rd";rw [Β,af (by omega),af (by omega)] at hL
   exact q D H1 s1 gD hL
inductive jl (K:Ι) (vs:List V) (H:Hp) (Q:VK) (E_:XK):Prop
 | mk (a:Addr) (ns:List Int) (k:Nat) (h0:vs=[.ref a,.int k]) (h1:ao K H a (ns.map V.int)) (h2:ns.length<=63) (h3:Q (.int (ns.getD k 0)) H)
theorem Z68  (R:g.Raw "_law_cell_at" "_law_cell_at" xU ["_law_script","_law_k"]) (au:g.mg "len"=none):g.Fn (1) "_law_cell_at" ["_law_script","_law_k"] (jl g.K):=by
 refine R.fn Z66 (λvs H Q E h=>by obtain ⟨a,ns,k,rfl,hS,hl,q⟩:=h;rfl) λf_ cdv A outer s H vs Q E hr h=>?_
 obtain ⟨a,ns,k,rfl,hS,hl,q⟩:=h;refine ⟨_,(Ye (YF (Yq UV (pv 1) (YN au YL (Ya (pv 0) Yd)) (Ys _)) (Yi (Yn (Yr YQ (pv 0) (pv 1)))) Yw) (Yi (Yn Yg))),?_⟩;walk_at "rd";refine ⟨_,.inl hS,Xv (λc=>?_) λc=>?_⟩
 ·rw [Β] at c
  have hk:k<ns.length:=by omega
  have e:ns.getD k 0=ns[k]:=by simp [ae,Ε hk]
  rw [e] at q
  exact ⟨_,hS,_,Yo (by rw [Λ,Ε hk];rfl),q⟩
 ·rw [Β] at c
  have hk:ns.length<=k:=by omega
  have e:ns.getD k 0=0:=by simp [ae,List.getElem?_eq_none hk]
  rw [e] at q
  exact q
theorem Ygh {l:List Nat} {i c:Nat} (h:l[i]?=some c):dG (S l).cps.toList (i:Int)=some c:=by rw [WD];exact Yo h
def NL:List Nat:=[97,98,99,100,101,102,103,104,105,106,107,108,109,110,111,112,113,114,115,116,117,118,119,120,121,122]
theorem YgW:dq "abcdefghijklmnopqrstuvwxyz"=S NL:=by decide +kernel
theorem K3:NL.length=26:=rfl
theorem Dc:∀ c∈NL,c<1000:=by decide +kernel
def iZ (c:Int) (k j:Nat):Nat:=NL.getD ((if (j:Int)=c / 8%(1+c%8) then c / (64*((j:Int)+1))+(j:Int)*(j:Int)+(k:Int) else c / (64*((j:Int)+1))+(j:Int)*(j:Int))%26).toNat 0
def jA (c:Int) (k:Nat):List Nat:=(η (1+c%8).toNat).map (iZ c k)
theorem Ba (c:Int) (k:Nat):∀ z∈jA c k,z<1000:=by
 intro z hz;rw [jA,ar] at hz
 obtain ⟨j,_,rfl⟩:=hz;unfold iZ;refine Dc _ ?_;rw [ae,Ε (by rw [K3];omega)];exact List.getElem_mem _
inductive Bb (vs:List V) (H:Hp) (Q:VK) (E_:XK):Prop
 | mk (c:Int) (k:Nat) (h0:vs=[.int c,.int k]) (h1:Q (.str (S (jA c k))) H)
theorem Ybq  (R:g.Raw "_law_name" "_law_name" xV ["_law_cell","_law_k"]) (Zj:g.mg "range"=none):g.Fn (1) "_law_name" ["_law_cell","_law_k"] (Bb):=by
 refine R.fn iM (λvs H Q E h=>by obtain ⟨c,k,rfl,q⟩:=h;rfl) λf_ cdv A outer s H vs Q E hr h=>?_
 obtain ⟨c,k,rfl,q⟩:=h;refine ⟨_,(Ye (Yp (i:=2) iM.nd rfl (.inl rfl) YM) (Ye (Yp (i:=3) iM.nd rfl (.inl rfl) (Yl YW Yg (Yl Xg (pv 0) Yg))) (Ye (Yp (i:=4) iM.nd rfl (.inl rfl) (Yl Xg (Yl Y1 (pv 0) Yg) (pv 3))) (Ye (Yp (i:=5) iM.nd rfl (.inl rfl) YM) (Ye (Xp ai rfl (Y7 rfl Zj (Ya (pv 3) Yd)) (Yu (i:=6) iM.nd rfl (.inl rfl)) (Ye (Yp (i:=7) iM.nd rfl (.inl rfl) (Yl YW (Yl Y1 (pv 0) (Yl XD Yg (Yl YW (pv 6) Yg))) (Yl XD (pv 6) (pv 6)))) (Ye (YF (Yq YK (pv 6) (pv 4) (Ys _)) (Yi (Yp (i:=7) iM.nd rfl (.inl rfl) (Yl YW (pv 7) (pv 1)))) Yw) (Yi (Yp (i:=5) iM.nd rfl (.inl rfl) (Yl UW (pv 5) (Yr Er (pv 2) (Yl Xg (pv 7) Yg)))))))) (Yi (Yn (pv 5)))))))),?_⟩;have hm0:0<=c%8:=by omega
 obtain ⟨sz,esz,hsz⟩:=WQ c (j:=8) (by decide);walk_at "rd";refine ⟨by decide,YS (by decide) (by decide),by omega,?_⟩;refine XN (n:=sz+1) (λi σ H'=>∃ o6 o7,σ=[some (.int c),some (.int k),some (.str (S NL)),some (.int (1+c%8)),some (.int (c / 8%(1+c%8))),some (.str (S ((η i).map (iZ c k)))),o6,o7]/\H'=H) (λR r=>?_) (by omega) ⟨_,_,by rw [YgW];rfl,rfl⟩ ?_ ?_
 ·walk_at "rd"
  rw [show 1+c%8=((sz+1:Nat):Int) by omega];exact r
 ·rintro i σ H' hi ⟨o6,o7,rfl,rfl⟩
  have key:∀ z:Int,iZ c k i=NL.getD (z%26).toNat 0->wj (V.str (S NL)) (V.int (z%26)) H' λy H2=>∃ x,y=V.str x/\(S (List.map (iZ c k) (η i))).length+x.length<=sizeLine/\S (List.map (iZ c k) (η i))++x=S (List.map (iZ c k) (η (i+1)))/\H2=H':=by
   intro z hz;obtain ⟨r,er,hr⟩:=WQ z (j:=26) (by decide);rw [er] at hz ⊢
   have h1:NL[r]?=some (NL.getD r 0):=by rw [ae,Ε (show r<NL.length by rw [K3];omega)];rfl
   rw [bm] at hz
   refine ⟨_,_,_,rfl,rfl,few (by rw [Xu];decide),Ygh h1,?_⟩;refine ⟨_,rfl,few (by rw [Xu,Β,aS];show _+1<=_;omega),?_,rfl⟩;rw [CG,tW,cK,a8,<- hz];rfl
  walk_at "rd";refine ⟨.inl (cm (m:=7) (n:=10) (by decide) (by omega)),YS (by omega) (by omega),.inl (cm (m:=10) (n:=10) (by omega) (by omega)),?_⟩;refine Xv (λc1=>⟨by decide,key _ ?_⟩) (λc1=>⟨by decide,key _ ?_⟩)
  ·rw [iZ,if_pos c1]
  ·rw [iZ,if_neg c1]
 ·rintro σ H' ⟨o6,o7,rfl,rfl⟩
  walk_at "rd";have e:sz+1=(1+c%8).toNat:=by omega
  rw [e];exact q
inductive dM:Sh->Prop
 | w (lo:Int) (span:Nat):span<=6->dM (.w lo span)
 | t (sg:List Nat):1<=sg.length->sg.length<=3->(∀ c∈sg,c<1000)->dM (.t sg)
theorem Oi {K:Ι} {H:Hp} {p:Addr} {lo:Int} {span:Nat} (h:H p=some (.tup [.str "whole",.int lo,.int (lo+span)])):DK K H p (kd (.w lo span)):=by
 refine ⟨?_,X3 _,by simp [kd,υ,δ]⟩;rw [kd];exact .tup (aH.of h) (.cons (.str _ (by decide +kernel)) (.cons (.int _) (.cons (.int _) .nil)))
theorem Bc {K:Ι} {H:Hp} {p:Addr} {sg:List Nat} (h:H p=some (.tup [.str "text",.str (S sg)])) (hs:∀ c∈sg,c<1000):DK K H p (kd (.t sg)):=by
 refine ⟨?_,X3 _,by simp [kd,υ,δ]⟩;rw [kd];exact .tup (aH.of h) (.cons (.str _ (by decide +kernel)) (.cons (.str _ (Vq hs)) .nil))
inductive uM (K:Ι) (vs:List V) (H:Hp) (Q:VK) (E_:XK):Prop
 | mk (c:Int) (h0:vs=[.int c]) (h1:∀ (p:Addr) (sh:Sh) H',dM sh->Yj H H'->DK K H' p (kd sh)->Q (.ref p) H')
def LT:List Nat:=[97,98,99,100,101,102,103,104,105,106,107,108,109,110,111,112,113,114,115,116,117,118,119,120,121,122,65,66,67,68,69,70,71,72,73,74,75,76,77,78,79,80,81,82,83,84,85,86,87,88,89,90,48,49,50,51,52,53,54,55,56,57]
theorem YgX:dq "abcdefghijklmnopqrstuvwxyzABCDEFGHIJKLMNOPQRSTUVWXYZ0123456789"=S LT:=by decide +kernel
theorem Ye1:∀ c∈LT,c<1000:=by decide +kernel
theorem YgY:LT.length=62:=by decide
theorem YgZ (l:List Nat):VD (S l)=S l.reverse:=by rw [VD,WD];rfl
theorem Ybr  (R:g.Raw "_law_leaf" "_law_leaf" yg ["_law_cell"]):g.Fn (1) "_law_leaf" ["_law_cell"] (uM g.K):=by
 refine R.fn oY (λvs H Q E h=>by obtain ⟨c,rfl,q⟩:=h;rfl) λf_ cdv A outer s H vs Q E hr h=>?_
 obtain ⟨c,rfl,q⟩:=h;refine ⟨_,(Ye (YF (Yq YK (Yl Xg (pv 0) Yg) Yg (Ys _)) (Ye (Yp (i:=1) oY.nd rfl (.inl rfl) (Yl Y2 (Yl Xg (Yl Y1 (pv 0) Yg) (Yl DW Yg Yg)) (Yl XD Yg (Yl DW Yg Yg)))) (Yi (Yn (Y9 (Ya YM (Ya (pv 1) (Ya (Yl YW (pv 1) (Yr YQ (YR (Ya Yg (Ya Yg (Ya Yg (Ya Yg Yd))))) (Yl Xg (Yl Y1 (pv 0) Yg) Yg))) Yd))))))) Yw) (Ye (Yp (i:=2) oY.nd rfl (.inl rfl) YM) (Ye (Yp (i:=3) oY.nd rfl (.inl rfl) (Yl Xg (Yl Y1 (pv 0) Yg) Yg)) (Ye (Yp (i:=4) oY.nd rfl (.inl rfl) (Ep R8 (pv 2) (Qr (pv 3)) (Qr (Yl YW (Yl YW (pv 3) Yg) (Yl Xg (Yl Y1 (pv 0) Yg) Yg))))) (Yi (Yn (Y9 (Ya YM (Ya (Yr YQ (YR (Ya (pv 4) (Ya (@Yf5 _ _ _ _ _ _ _ (g.K) (pv 4) (Ul Vk Yg) (by rfl)) Yd))) (Yl Xg (Yl Y1 (pv 0) Yg) Yg)) Yd))))))))),?_⟩;walk_at "rd";refine ⟨by decide,Xv (λc0=>?_) (λc0=>?_)⟩
 ·refine ⟨YS (by decide) (by decide),zF,by decide,zF,.inl (cm (m:=3) (n:=64) (by decide) (by decide)),few (by decide),λp hp=>⟨YS (by decide) (by decide),by decide,?_⟩⟩
  generalize c / 8%10^jb 20 - 5*10^jb 19=lo;obtain ⟨w,hw,hw1⟩:∃ w:Nat,dG [V.int 0,V.int 1,V.int 3,V.int 6] (c / 2%4)=some (.int w)/\w<=6:=by
   have:c / 2%4=0\/c / 2%4=1\/c / 2%4=2\/c / 2%4=3:=by omega
   rcases this with h | h | h | h<;>rw [h]
   ·exact ⟨0,rfl,by decide⟩
   ·exact ⟨1,rfl,by decide⟩
   ·exact ⟨3,rfl,by decide⟩
   ·exact ⟨6,rfl,by decide⟩
  refine ⟨_,ao.of Yc,_,hw,w,rfl,few (by decide),λp1 hp1=>q p1 (.w lo w) _ (.w lo w hw1) ((Yj.aj hp _).trans (.aj hp1 _)) (Oi Yc)⟩
 ·refine ⟨YS (by decide) (by decide),by decide,YS (by decide) (by decide),by decide,?_⟩
  obtain ⟨st,est,hst⟩:=WQ (c / 2) (j:=60) (by decide);obtain ⟨m0,em0,hm0⟩:=WQ (c / 120) (j:=3) (by decide);rw [est,em0,YgX];have c1:VB (S LT) (some (st:Int)) (some ((st:Int)+1+(m0:Int)))=S ((LT.drop st).take (1+m0)):=by
   have:=Sy LT st (st+1+m0);rw [dS,dS,show ((1:Nat):Int)=1 from rfl] at this
   rw [this];congr 2;omega
  refine ⟨_,rfl,few (by rw [Xu];decide),?_⟩;rw [c1];have hlt:=YgY;generalize hsg:(LT.drop st).take (1+m0)=sg;have ht1:1<=sg.length:=by rw [<- hsg,ay,gV];omega
  have K4:sg.length<=3:=by rw [<- hsg,ay];omega
  have uN:∀ z∈sg,z<1000:=λz hz=>Ye1 z (by rw [<- hsg] at hz;exact List.mem_of_mem_drop (List.mem_of_mem_take hz))
  walk_at "rd";refine ⟨rfl,.inr (.inr ⟨S sg,rfl,few (by rw [Xu];omega),?_⟩)⟩;rw [YgZ];refine ⟨few (by decide),λp hp=>⟨YS (by decide) (by decide),by decide,?_⟩⟩;have sp:=Yj.aj hp (.lst [.str (S sg),.str (S sg.reverse)]);have:c / 360%2=0\/c / 360%2=1:=by omega
  rcases this with h | h<;>rw [h]
  ·exact ⟨_,ao.of Yc,_,Yo (j:=0) rfl,few (by decide),λp1 hp1=>q p1 (.t sg) _ (.t sg ht1 K4 uN) (sp.trans (.aj hp1 _)) (Bc Yc uN)⟩
  ·exact ⟨_,ao.of Yc,_,Yo (j:=1) rfl,few (by decide),λp1 hp1=>q p1 (.t sg.reverse) _ (.t _ (by rw [bz];exact ht1) (by rw [bz];exact K4) λz hz=>uN z (List.mem_reverse.mp hz)) (sp.trans (.aj hp1 _)) (Bc Yc λz hz=>uN z (List.mem_reverse.mp hz))⟩
inductive Dr (nm:List Nat):Nat->Sh->Prop
 | lf {d:Nat} {sh:Sh}:dM sh->Dr nm d sh
 | many {d:Nat} {p:Sh}:Dr nm d p->Dr nm (d+1) (.many p)
 | alike {d:Nat} {p:Sh} {k:Nat}:1<=k->k<=3->Dr nm d p->Dr nm (d+1) (.alike p k)
 | use {d:Nat}:Dr nm (d+1) (.use nm)
 | row {d:Nat} {p p':Sh}:Dr nm d p->Dr nm d p'->Dr nm (d+1) (.row [p,p'])
 | pick {d:Nat} {m m':List Nat} {p p':Sh}:bc (S m)=true->bc (S m')=true->Dr nm d p->Dr nm d p'->Dr nm (d+1) (.pick [m,m'] [p,p'])
theorem K5 {sh:Sh} (h:dM sh):(kd sh).depth<=1:=by
 cases h<;>simp [kd,υ,δ]
theorem ks1 {k e:Nat} (h:k<[7,3,1].getD (e+1) 0):2*k+1<[7,3,1].getD e 0/\2*k+2<[7,3,1].getD e 0/\e+1<=2/\k<=6:=by
 match e,h with
 | 0,h=>have h:k<3:=h;exact ⟨(by omega:2*k+1<7),(by omega:2*k+2<7),by decide,by omega⟩
 | 1,h=>have h:k<1:=h;exact ⟨(by omega:2*k+1<3),(by omega:2*k+2<3),by decide,by omega⟩
 | n+2,h=>cases h
theorem Ygi {nm:List Nat} {d:Nat} {sh:Sh} (h:Dr nm d sh):(kd sh).depth<=1+3*d:=by
 induction h with
 | lf h=>have:=K5 h;omega
 | use=>simp [kd,υ,δ]
 | many _ ih=>simp only [kd,υ,δ,i3,i4];omega
 | alike _ _ _ ih=>simp only [kd,υ,δ,i3,i4];omega
 | row _ _ ih1 ih2=>simp only [kd,bJ,υ,δ,i3,i4];omega
 | pick _ _ _ _ ih1 ih2=>simp only [kd,kdp,υ,δ,i3,i4];omega
inductive uO (K:Ι) (m:Nat) (vs:List V) (H:Hp) (Q:VK) (E_:XK):Prop
 | mk (a:Addr) (ns:List Int) (d k:Nat) (nm:List Nat) (h0:vs=[.ref a,.int d,.int k,.str (S nm)]) (h1:ao K H a (ns.map V.int)) (h2:ns.length<=63) (h3:bc (S nm)=true) (h4:k<[7,3,1].getD d 0) (h5:d<m) (h6:∀ (p:Addr) (sh:Sh) H',Dr nm d sh->Yj H H'->DK K H' p (kd sh)->Q (.ref p) H')
theorem Yej {K:Ι} {vs:List V} {H:Hp} {Q:VK} {E:XK} (h:uO K 0 vs H Q E):False:=by
 obtain ⟨_,_,_,_,_,_,_,_,_,_,h,_⟩:=h;omega
theorem Up {K:Ι} {H:Hp} {p:Addr} {nm:List Nat} {d:Nat} {sh:Sh} (h:Dr nm d sh) (hd:d<=2) (k:Den K H (.ref p) (kd sh)):DK K H p (kd sh):=⟨k,X3 sh,by have:=Ygi h;omega⟩
theorem Bd {k:Nat}  (R:g.Raw "_law_shape" "_law_shape" yh ["_law_script","_law_deep","_law_at","_law_name_here"]) (j8:g.Fn k "_law_cell_at" ["_law_script","_law_k"] (jl g.K)) (uP:g.Fn k "_law_name" ["_law_cell","_law_k"] (Bb)) (Bf:g.Fn k "_law_leaf" ["_law_cell"] (uM g.K)) (uQ:g.Fn k "_law_shape" ["_law_script","_law_deep","_law_at","_law_name_here"] (uO g.K m)):g.Fn (k+1) "_law_shape" ["_law_script","_law_deep","_law_at","_law_name_here"] (uO g.K (m+1)):=by
 refine R.fn oZ (λvs H Q E h=>by obtain ⟨a,ns,d,k,nm,rfl,hS,hl,hs,hd2,hd,q⟩:=h;rfl) λf_ cdv A outer s H vs Q E hr h=>?_
 obtain ⟨a,ns,d,k,nm,rfl,hS,hl,hs,hd2,hd,q⟩:=h;refine ⟨_,(Ye (Yp (i:=4) oZ.nd rfl (.inl rfl) (Yz j8 hr (Ya (pv 0) (Ya (pv 2) Yd)))) (Ye (Yp (i:=5) oZ.nd rfl (.inl rfl) (Yl Xg (pv 4) Yg)) (Ye (YF (Vs (Yq YK (pv 1) Yg (Ys _)) (Vh (Yq UV (pv 5) Yg (Ys _)))).pt (Yi (Yn (Yz Bf hr (Ya (Yl Y1 (pv 4) Yg) Yd)))) Yw) (Ye (Yp (i:=6) oZ.nd rfl (.inl rfl) (Yz uQ hr (Ya (pv 0) (Ya (Yl Y2 (pv 1) Yg) (Ya (Yl YW (Yl XD Yg (pv 2)) Yg) (Ya (pv 3) Yd)))))) (Ye (YF (Yq YK (pv 5) Yg (Ys _)) (Yi (Yn (Y9 (Ya YM (Ya (pv 6) Yd))))) Yw) (Ye (YF (Yq YK (pv 5) Yg (Ys _)) (Yi (Yn (Y9 (Ya YM (Ya (pv 6) (Ya (Yl YW Yg (Yl Xg (Yl Y1 (pv 4) Yg) Yg)) Yd)))))) Yw) (Ye (YF (Yq YK (pv 5) Yg (Ys _)) (Yi (Yn (Y9 (Ya YM (Ya (pv 3) Yd))))) Yw) (Ye (Yp (i:=7) oZ.nd rfl (.inl rfl) (Yz uQ hr (Ya (pv 0) (Ya (Yl Y2 (pv 1) Yg) (Ya (Yl YW (Yl XD Yg (pv 2)) Yg) (Ya (pv 3) Yd)))))) (Ye (YF (Yq YK (pv 5) Yg (Ys _)) (Yi (Yn (Y9 (Ya YM (Ya (Y9 (Ya (pv 6) (Ya (pv 7) Yd))) Yd (Wl _ _ _ _ _)))))) Yw) (Yi (Yn (Y9 (Ya YM (Ya (Y9 (Ya (Y9 (Ya (Yz uP hr (Ya (Yl Y1 (pv 4) Yg) (Ya Yg Yd))) (Ya (pv 6) Yd))) (Ya (Y9 (Ya (Yz uP hr (Ya (Yl Y1 (pv 4) Yg) (Ya Yg Yd))) (Ya (pv 7) Yd))) Yd (Wl _ _ _ _ _)) (Wl _ _ _ _ _))) Yd (Wl _ _ _ _ _))))))))))))))),?_⟩;have leaf:∀ (c:Int) H1,Yj H H1->∃ i,V.int c=V.int i/\wO i 7/\uM g.K [V.int (i / 7)] H1 Q E0:=λc H1 s1=>⟨c,rfl,YS (by decide) (by decide),c / 7,rfl,λp sh H' hl s hk=>q p sh H' (.lf hl) (s1.trans s) hk⟩
 walk_at "rd";refine ⟨a,ns,k,rfl,hS,hl,?_⟩;generalize ns.getD k 0=c at *;refine ⟨_,rfl,by decide,Xv (λ_=>leaf c H (.refl _)) (λc0=>Xv (λ_=>leaf c H (.refl _)) (λc1=>?_))⟩;obtain ⟨e,rfl⟩:∃ e,d=e+1:=⟨d - 1,by omega⟩;obtain ⟨hk1,hk2,he,hk6⟩:=ks1 hd2;clear hd2;refine ⟨.inl (cm (m:=3) (n:=10) (by decide) (by omega)),?_⟩;have e1:((e+1:Nat):Int) - 1=(e:Int):=by omega
 rw [e1];refine ⟨a,ns,e,2*k+1,nm,by rw [show ((2*k+1:Nat):Int)=2*(k:Int)+1 by omega],hS,hl,hs,hk1,by omega,λp1 uR H1 d1 s1 k1=>?_⟩;refine Xv (λ_=>⟨few (by decide),λp hp=>?_⟩) (λ_=>Xv (λ_=>⟨c,rfl,YS (by decide) (by decide),by decide,few (by decide),λp hp=>?_⟩) (λ_=>Xv (λ_=>⟨few (by decide),λp hp=>?_⟩) (λ_=>⟨.inl (cm (m:=3) (n:=10) (by decide) (by omega)),?_⟩)))
 ·have sp:=Yj.aj hp (.tup [V.str (dq "many"),V.ref p1])
  have D:=Dr.many d1;refine q p _ _ D (s1.trans sp) (Up D he ?_);rw [kd];exact .tup (aH.of Yc) (.cons (.str _ (by decide +kernel)) (.cons (k1.den.keep sp) .nil))
 ·obtain ⟨r,er,hr⟩:=WQ (c / 7) (j:=3) (by decide)
  have e2:(1:Int)+c / 7%3=((1+r:Nat):Int):=by omega
  rw [e2];have sp:=Yj.aj hp (.tup [V.str (dq "alike"),V.ref p1,V.int ((1+r:Nat):Int)]);have D:=Dr.alike (k:=1+r) (by omega) (by omega) d1;refine q p _ _ D (s1.trans sp) (Up D he ?_);rw [kd];exact .tup (aH.of Yc) (.cons (.str _ (by decide +kernel)) (.cons (k1.den.keep sp) (.cons (.int _) .nil)))
 ·have D:=Dr.use (nm:=nm) (d:=e)
  refine q p _ _ D (s1.trans (.aj hp _)) (Up D he ?_);rw [kd];exact .tup (aH.of Yc) (.cons (.str _ (by decide +kernel)) (.cons (.str _ hs) .nil))
 ·refine ⟨a,ns,e,2*k+2,nm,by rw [show ((2*k+2:Nat):Int)=2*(k:Int)+2 by omega],s1.seq hS,hl,hs,hk2,by omega,λp2 sh2 H2 d2 s2 k2=>Xv (λ_=>⟨few (by decide),λp hp=>⟨few (by decide),λp3 hp3=>?_⟩⟩) (λ_=>?_)⟩
  ·have sp:=Yj.aj hp (.tup [V.ref p1,V.ref p2])
   have uT:=Yj.aj hp3 (.tup [V.str (dq "row"),V.ref p]);have D:=Dr.row d1 d2;refine q p3 _ _ D ((s1.trans s2).trans (sp.trans uT)) (Up D he ?_);rw [kd,bJ,bJ,bJ];exact .tup (aH.of Yc) (.cons (.str _ (by decide +kernel)) (.cons (.tup (aH.of (uT _ _ Yc)) (.cons (k1.den.keep (s2.trans (sp.trans uT))) (.cons (k2.den.keep (sp.trans uT)) .nil))) .nil))
  ·refine ⟨c,rfl,YS (by decide) (by decide),c / 7,1,rfl,few (by decide),λt1 g1=>⟨c,rfl,YS (by decide) (by decide),c / 7,0,rfl,few (by decide),λt2 g2=>⟨few (by decide),λt3 g3=>⟨few (by decide),λt4 g4=>?_⟩⟩⟩⟩
   have w1:=Yj.aj g1 (.tup [V.str (S (jA (c / 7) 1)),V.ref p1]);have w2:=Yj.aj g2 (.tup [V.str (S (jA (c / 7) 0)),V.ref p2]);have w3:=Yj.aj g3 (.tup [V.ref t1,V.ref t2]);have w4:=Yj.aj g4 (.tup [V.str (dq "pick"),V.ref t3]);have o1:bc (S (jA (c / 7) 1))=true:=Vq (Ba _ _);have o2:bc (S (jA (c / 7) 0))=true:=Vq (Ba _ _);have D:=Dr.pick o1 o2 d1 d2;have w34:=w3.trans w4;have w24:=w2.trans w34;have w14:=w1.trans w24;refine q t4 _ _ D ((s1.trans s2).trans w14) (Up D he ?_);rw [kd,kdp,kdp,kdp]
   ·exact .tup (aH.of Yc) (.cons (.str _ (by decide +kernel)) (.cons (.tup (aH.of (w4 _ _ Yc)) (.cons (.tup (aH.of (w24 _ _ Yc)) (.cons (.str _ o1) (.cons (k1.den.keep (s2.trans w14)) .nil))) (.cons (.tup (aH.of (w34 _ _ Yc)) (.cons (.str _ o2) (.cons (k2.den.keep w14) .nil))) .nil))) .nil))
   all_goals simp
def cv (g h:Nat->Nat) (s:Nat):Nat:=((η (s+1)).map λf=>g f*h (s - f)).sum
def B3:Nat->Nat->Nat
 | 0,f=>3^f
 | 1,f=>[2,6,27,108,405,1458].getD f 0
 | _,f=>[4,24,144,756,3645,16524].getD f 0
def M3:Nat->Nat->Nat
 | 0,f=>[1,1,4,16,64,256].getD f 0
 | _,f=>[1,2,10,59,340,1925].getD f 0
theorem K6:∀ d:Fin 3,∀ f:Fin 6,3^f.val<=B3 d.val f.val/\B3 d.val f.val<=20000:=by decide +kernel
theorem Qn:∀ d:Fin 2,∀ f:Fin 6,cv (B3 d.val) (B3 d.val) f.val<=B3 (d.val+1) f.val/\B3 d.val f.val+B3 d.val f.val<=B3 (d.val+1) f.val/\M3 d.val f.val<=B3 (d.val+1) f.val/\1<=M3 d.val 0:=by decide +kernel
theorem Ygj:∀ d:Fin 2,∀ f:Fin 5,cv (B3 d.val) (M3 d.val) f.val<=M3 d.val (f.val+1):=by decide +kernel
theorem Ye2:∀ d:Fin 2,∀ f:Fin 6,∀ k:Fin 4,1<=k.val->k.val<=f.val->B3 d.val (f.val / k.val - 1)<=B3 (d.val+1) f.val:=by decide +kernel
theorem Yg0:∀ d:Fin 2,∀ f:Fin 5,3^f.val<=B3 (d.val+1) (f.val+1):=by decide +kernel
theorem Bg {α:Type} {g h:α->Nat}:∀ {l:List α},(∀ x∈l,g x<=h x)->(l.map g).sum<=(l.map h).sum
 | [],_=>Κ _
 | a::l,hh=>by
  rw [aa,aa,ef,ef];exact ck (hh a (.head _)) (Bg λx hx=>hh x (.tail _ hx))
theorem K7 {g g' h h':Nat->Nat} {s:Nat} (hg:∀ f,f<=s->g f<=g' f) (hh:∀ f,f<=s->h f<=h' f):cv g h s<=cv g' h' s:=Bg λf hf=>Nat.mul_le_mul (hg f (by have:=a7.mp hf;omega)) (hh (s - f) (by omega))
theorem UP {α β γ:Type} (g:α->β->γ) (A:Nat->List α) (B:Nat->List β) (s:Nat):((η (s+1)).flatMap λf=>aZ g (A f) (B (s - f))).length=cv (λf=>(A f).length) (λf=>(B f).length) s:=by
 rw [List.length_flatMap,cv]
 congr 1
 exact a5 λf _=>XZ _ _ _
theorem UQ (bk:List Nat->Sh) (q:Sh) (t:Nat):(bL bk [q] t).length=(en bk q t).length:=by
 rw [XT,UP,cv,cK,a8,List.sum_append,aa,eI,ef,List.sum_nil,fq,X6,if_pos rfl];have:((η t).map λf=>(en bk q f).length*(bL bk [] (t - f)).length).sum=0:=by
  rw [a5 (g:=λ_=>0) λf hf=>by
   have:=a7.mp hf;rw [X6,if_neg (by omega)];rfl]
  exact Nat.le_zero.mp (Ο (Bg (h:=λ_=>0) λ_ _=>Κ _) (by induction (η t)<;>simp_all))
 rw [this];simp
theorem Ye3 (bk:List Nat->Sh) (p q:Sh) (s:Nat):(bL bk [p,q] s).length=cv (λf=>(en bk p f).length) (λf=>(en bk q f).length) s:=by
 rw [XT,UP]
 congr 1
 exact funext λt=>UQ bk q t
theorem Yg1 {G:Nat->List Ζ} {d:Nat} (hd:d<2) (h:∀ f,f<=5->(G f).length<=B3 d f):∀ s,s<=5->(bZ G s).length<=M3 d s:=by
 intro s
 induction s using Nat.strongRecOn with
 | ind s ih =>
  intro hs
  cases s with
  | zero=>rw [VG];exact (Qn ⟨d,hd⟩ ⟨0,by omega⟩).2.2.2
  | succ s =>
   rw [XA,UP];exact Ο (K7 (λf hf=>h f (by omega)) λf hf=>ih f (by omega) (by omega)) (Ygj ⟨d,hd⟩ ⟨s,by omega⟩)
theorem Bh {sg:List Nat} (h:sg.length<=3):∀ s,(bU sg s).length<=3^s
 | 0=>Κ _
 | s+1=>by
  rw [bU,XZ,Nat.pow_succ];exact Nat.mul_le_mul (Bh h s) h
section
 variable {nm:List Nat} {lf:Sh}
theorem K8 {bk:List Nat->Sh} {sh:Sh} (h:dM sh) (s:Nat):(en bk sh s).length<=3^s:=by
 cases h with
 | w lo span h =>
  rw [pq,Β,aS];have:=Jc span s;have h2:((2^s:Nat):Int)=2^s:=by norm_cast
  have h3:2^s<=3^s:=Nat.pow_le_pow_left (by decide) s;omega
 | t sg _ h _=>rw [VH,Β];exact Bh h s
theorem K9:aF [(nm,lf)] nm=lf:=by unfold aF;rw [aT,decide_eq_true rfl];rfl
theorem La (bK:dM lf) {d:Nat} {sh:Sh} (h:Dr nm d sh):d<=2->∀ f,f<=5->(en (aF [(nm,lf)]) sh f).length<=B3 d f:=by
 induction h with
 | @lf d sh h=>exact λhd f hf=>Ο (K8 h f) (K6 ⟨d,by omega⟩ ⟨f,by omega⟩).1
 | @use d =>
  intro hd f hf
  cases f with
  | zero=>rw [Ur];exact ι _
  | succ f =>
   rw [V9,K9];exact Ο (K8 bK f) (Yg0 ⟨d,by omega⟩ ⟨f,by omega⟩)
 | @many d p _ ih =>
  intro hd f hf;rw [Xo,Β];exact Ο (Yg1 (by omega) (ih (by omega)) f hf) (Qn ⟨d,by omega⟩ ⟨f,by omega⟩).2.2.1
 | @alike d p k h1 h3 _ ih =>
  intro hd f hf;rw [W2]
  split
  ·exact ι _
  ·rename_i c
   have:=cE f k;rw [Β];exact Ο (ih (by omega) (f / k - 1) (by omega)) (Ye2 ⟨d,by omega⟩ ⟨f,by omega⟩ ⟨k,by omega⟩ h1 (by show k<=f;omega))
 | @row d p p' _ _ ih1 ih2 =>
  intro hd f hf;rw [W1,Β,Ye3];exact Ο (K7 (λt ht=>ih1 (by omega) t (by omega)) λt ht=>ih2 (by omega) t (by omega)) (Qn ⟨d,by omega⟩ ⟨f,by omega⟩).1
 | @pick d m m' p p' _ _ _ _ ih1 ih2 =>
  intro hd f hf;have h1:=ih1 (by omega) f hf;have h2:=ih2 (by omega) f hf;have h3:B3 d f+B3 d f<=B3 (d+1) f:=(Qn ⟨d,by omega⟩ ⟨f,by omega⟩).2.1;rw [WR,XJ,XJ,Μ,Μ,Β,Β,bW,cC];simp only [il];omega
theorem WP (bK:dM lf) {d:Nat} {sh:Sh} (h:Dr nm d sh) (hd:d<=2):∀ f,f<=5->(en (aF [(nm,lf)]) sh f).length<=20000:=λf hf=>Ο (La bK h hd f hf) (K6 ⟨d,by omega⟩ ⟨f,by omega⟩).2
theorem Lb (bK:dM lf) {sh:Sh} (h:dM sh):Ab (aF [(nm,lf)]) sh:=by
 have:=WP bK (Dr.lf (nm:=nm) (d:=0) h) (by decide)
 cases h with
 | w lo span h=>rw [Ab];exact ⟨h,this⟩
 | t sg _ _ _=>rw [Ab];exact this
theorem Dd (bK:dM lf) {d:Nat} {sh:Sh} (h:Dr nm d sh):d<=2->Ab (aF [(nm,lf)]) sh:=by
 induction h with
 | lf h=>exact λ_=>Lb bK h
 | use=>intro hd;rw [Ab];exact WP bK .use hd
 | many hp ih=>intro hd;rw [Ab];exact ⟨WP bK (.many hp) hd,ih (by omega)⟩
 | alike h1 h3 hp ih=>intro hd;rw [Ab];exact ⟨WP bK (.alike h1 h3 hp) hd,h3,ih (by omega)⟩
 | @row d p p' hp hq ih1 ih2 =>
  intro hd;have a1:=WP bK (.row hp hq) hd;rw [Ab,dJ,dJ,dJ];refine ⟨a1,by simp,ih1 (by omega),⟨ih2 (by omega),trivial,λf hf=>?_⟩,λf hf=>?_⟩
  ·rw [UQ]
   exact WP bK hq (by omega) f hf
  ·have:=a1 f hf
   rwa [W1,Β] at this
 | @pick d m m' p p' o1 o2 hp hq ih1 ih2 =>
  intro hd;have a1:=WP bK (.row hp hq) hd;rw [Ab,dJ,dJ,dJ];refine ⟨WP bK (.pick o1 o2 hp hq) hd,by simp,ih1 (by omega),⟨ih2 (by omega),trivial,λf hf=>?_⟩,λf hf=>?_⟩
  ·rw [UQ]
   exact WP bK hq (by omega) f hf
  ·have:=a1 f hf
   rwa [W1,Β] at this
theorem Vd {prs:aU} {sh:Sh} (h:dM sh):aG prs sh/\wt sh=1/\dep sh=0:=by
 cases h with
 | w lo span h=>exact ⟨by rw [aG];trivial,by simp only [wt],by simp only [dep]⟩
 | t sg h1 h2 h3=>exact ⟨by rw [aG];exact ⟨h1,by omega,h3⟩,by simp only [wt],by simp only [dep]⟩
theorem Ld {d:Nat} {sh:Sh} (h:Dr nm d sh):aG [(nm,lf)] sh:=by
 induction h with
 | lf h=>exact (Vd h).1
 | use=>rw [aG];exact ⟨_,by rw [aT,decide_eq_true rfl]⟩
 | many _ ih=>rw [aG];exact ih
 | alike h1 h3 _ ih=>rw [aG];exact ⟨ih,h1,by omega⟩
 | row _ _ ih1 ih2=>rw [aG,Xe,Xe,Xe];exact ⟨by simp,ih1,ih2,trivial⟩
 | pick o1 o2 _ _ ih1 ih2 =>
  rw [aG,Xe,Xe,Xe];refine ⟨rfl,by simp,⟨ih1,ih2,trivial⟩,λm hm=>?_⟩;simp only [Φ,ac,or_false] at hm;rcases hm with rfl | rfl
  ·exact o1
  ·exact o2
theorem Le {d:Nat} {sh:Sh} (h:Dr nm d sh):dep sh<=d:=by
 induction h with
 | lf h=>rw [(Vd (prs:=[]) h).2.2];exact ι _
 | use=>simp only [dep];omega
 | many _ ih=>rw [dep];omega
 | alike _ _ _ ih=>rw [dep];omega
 | row _ _ ih1 ih2=>simp only [dep,YG];omega
 | pick _ _ _ _ ih1 ih2=>simp only [dep,YG];omega
theorem Df {d:Nat} {sh:Sh} (h:Dr nm d sh):d<=2->wt sh<=[1,3,7].getD d 0:=by
 induction h with
 | @lf d _ h =>
  intro hd;rw [(Vd (prs:=[]) h).2.1]
  match d,hd with
  | 0,_=>decide
  | 1,_=>decide
  | 2,_=>decide
 | @use d =>
  intro hd;simp only [wt]
  match d,hd with
  | 0,_=>decide
  | 1,_=>decide
 | @many d _ _ ih =>
  intro hd;have ih:=ih (by omega);rw [wt]
  match d,hd,ih with
  | 0,_,ih=>exact Ο (b4 ih) (by decide)
  | 1,_,ih=>exact Ο (b4 ih) (by decide)
 | @alike d _ _ _ _ _ ih =>
  intro hd;have ih:=ih (by omega);rw [wt]
  match d,hd,ih with
  | 0,_,ih=>exact Ο (b4 ih) (by decide)
  | 1,_,ih=>exact Ο (b4 ih) (by decide)
 | @row d _ _ _ _ ih1 ih2 =>
  intro hd;have ih1:=ih1 (by omega);have ih2:=ih2 (by omega);simp only [wt,aN]
  match d,hd,ih1,ih2 with
  | 0,_,a,b=>exact Ο (b4 (ck a (ck b (Κ 0)))) (by decide)
  | 1,_,a,b=>exact Ο (b4 (ck a (ck b (Κ 0)))) (by decide)
 | @pick d _ _ _ _ _ _ _ _ ih1 ih2 =>
  intro hd;have ih1:=ih1 (by omega);have ih2:=ih2 (by omega);simp only [wt,aN]
  match d,hd,ih1,ih2 with
  | 0,_,a,b=>exact Ο (b4 (ck a (ck b (Κ 0)))) (by decide)
  | 1,_,a,b=>exact Ο (b4 (ck a (ck b (Κ 0)))) (by decide)
theorem Ygk {d:Nat} {sh:Sh} (h:Dr nm d sh) (hd:d<=2):wt sh<=24:=Ο (Df h hd) (by
 match d,hd with
 | 0,_=>decide
 | 1,_=>decide
 | 2,_=>decide)
end
structure LZ (K:Ι) (H:Hp) (B a:Addr) (nm:List Nat) (lf sh:Sh):Prop where
 lb:LB K H B nm lf
 lf:dM lf
 hk:DK K H a (kd sh)
 dr:Dr nm 2 sh
theorem LZ.keep {K:Ι} {H H':Hp} {B a:Addr} {nm:List Nat} {lf sh:Sh} (h:LZ K H B a nm lf sh) (s:Yj H H'):LZ K H' B a nm lf sh:=⟨h.lb.keep s,h.lf,h.hk.keep s,h.dr⟩
theorem LZ.la {K:Ι} {H:Hp} {B a:Addr} {nm:List Nat} {lf sh:Sh} {n:Nat} (h:LZ K H B a nm lf sh) (hn:n<=5):LA K H B a nm lf sh n 118:=by
 have:=Le h.dr;exact ⟨h.lb,h.hk,Ld h.dr,Dd h.lf h.dr (by decide),hn,this,by omega⟩
inductive j9 (K:Ι) (vs:List V) (H:Hp) (Q:VK) (E_:XK):Prop
 | mk (B a:Addr) (nm:List Nat) (lf sh:Sh) (w:Nat) (h0:vs=[.ref B,.ref a,.int w,.int 60]) (h1:LZ K H B a nm lf sh) (h2:w<=5) (h3:∀ (n:Nat) H',Yj H H'->n<=5->(en (aF [(nm,lf)]) sh n).length<=60->Q (.int n) H')
theorem Ybs {k:Nat}  (R:g.Raw "_law_size" "_law_size" yj ["_law_book","_law_shape_here","_law_want","_law_most"]) (gn:g.Fn k "_law_all" ["_law_book","_law_shape_here","_law_size_here"] (cI g.K 118)) (au:g.mg "len"=none):g.Fn (k+1) "_law_size" ["_law_book","_law_shape_here","_law_want","_law_most"] (j9 g.K):=by
 refine R.fn yq (λvs H Q E h=>by obtain ⟨B,a,nm,lf,sh,w,rfl,L,hw,q⟩:=h;rfl) λf_ cdv A outer s H vs Q E hr h=>?_
 obtain ⟨B,a,nm,lf,sh,w,rfl,L,hw,q⟩:=h;refine ⟨_,(Ye (Yp (i:=4) yq.nd rfl (.inl rfl) Yg) (Ye (WW ai (O4 (Yq UV (pv 4) (pv 2) (Ys _)) (O2 (Yq vU (YN au YL (Ya (Yz gn hr (Ya (pv 0) (Ya (pv 1) (Ya (Yl YW (pv 4) Yg) Yd)))) Yd)) (pv 3) (Ys _)))).pt (Yi (Yp (i:=4) yq.nd rfl (.inl rfl) (Yl YW (pv 4) Yg)))) (Yi (Yn (pv 4))))),?_⟩;walk_at "rd";refine X4 (α:=Nat) (λs σ H'=>σ=[some (.ref B),some (.ref a),some (.int w),some (.int 60),some (.int (s:Nat))]/\Yj H H'/\s<=w/\(en (aF [(nm,lf)]) sh s).length<=60) (λs=>decide (s<w/\(en (aF [(nm,lf)]) sh (s+1)).length<=60)) (λs=>w - s) 0 ⟨rfl,.refl _,by omega,?_⟩ ?_ ?_ ?_
 ·exact Ο (La L.lf L.dr (by decide) 0 (by decide)) (by decide)
 ·rintro s σ H' ⟨rfl,s1,hs,hc⟩ R r
  walk_at "rd";refine Xv (λc=>?_) (λc=>?_)
  ·refine ⟨B,a,nm,lf,sh,s+1,rfl,(L.keep s1).la (by omega),λD H2 s2 _ hL=>?_⟩
   obtain ⟨vs,hd,hv⟩:=hL;refine ⟨D,rfl,_,.inl (ao.of hd),?_⟩;have:=r H2 ⟨rfl,s1.trans s2,hs,hc⟩;rw [hv.length]
   rwa [show decide (s<w/\(en (aF [(nm,lf)]) sh (s+1)).length<=60)=decide (((en (aF [(nm,lf)]) sh (s+1)).length:Int)<=60) by
    have:s<w:=by omega
    simp only [this,true_and];exact decide_eq_decide.mpr (by omega)] at this
  ·have:=r H' ⟨rfl,s1,hs,hc⟩
   rwa [decide_eq_false (by omega)] at this
 ·rintro s σ H' ⟨rfl,s1,hs,hc⟩ c
  have c:=of_decide_eq_true c;walk_at "rd";exact ⟨s+1,rfl,s1,by omega,c.2,by omega⟩
 ·rintro s σ H' ⟨rfl,s1,hs,hc⟩ c
  walk_at "rd";exact q s H' s1 (by omega) hc
theorem Yel {src:List (Option Nat)} {ta:TA} {tt:TT} {te:TE} {σ:St} {H:Hp} {Q:VK} {n:Nat} (hn:n<=100000) (ha:∀ R:List V->Hp->Prop,R [.int (n:Int)] H->ta σ H R)
  (test:∀ (i:Nat) H',i<n->Yj H H'->∀ R:Bool->Hp->Prop,(∀ aM,Yj H' aM->R false aM)->tt (some (.int (i:Int))::YB src σ) H' R)
  (fin:∀ D H',Yj H H'->H' D=some (.lst [])->Q (.ref D) H'):c7 (none::src) (Uk ta) (Yy 0) tt te σ H Q:=by
 refine ha _ ⟨(n:Int),rfl,by omega,by omega,λD hD=>?_⟩;refine Sx (J:=iC 0 (jb (n:Int))) (P:=λ_=>True) (n:=n) (λi _ _ hi=>?_) (λ_ _=>?_) (λi ys σ' H'=>ys=[]/\(∃ o,σ'=o::YB src σ)/\Yj H H'/\H' D=some (.lst [])) ⟨rfl,⟨none,rfl⟩,.aj hD _,Yc⟩ (λi ys σ' H' p=>⟨trivial,by rw [p.1];exact p.2.2.2⟩) ?_ ?_
 ·show i<jb (n:Int)
  omega
 ·show jb (n:Int)<=n
  omega
 ·rintro i ys σ' H' hi ⟨rfl,⟨o,rfl⟩,sm,hd⟩ x H3 ⟨rfl,rfl⟩
  have e:(0:Int)+(i:Int)=(i:Int):=by omega
  rw [e];exact test i H3 hi sm _ λaM s2=>by
   rw [if_neg (by simp)];exact ⟨rfl,⟨_,rfl⟩,sm.trans s2,s2 _ _ hd⟩
 ·rintro ys σ' H' ⟨rfl,_,sm,hd⟩
  exact fin D H' sm hd
inductive fB (m:Nat) (vs:List V) (H:Hp) (Q:VK) (E_:XK):Prop
 | mk (v w:V) (d:Ζ) (h0:vs=[v,w]) (h1:DV H v d) (h2:DV H w d) (h3:d.depth<m) (h4:∀ H',Yj H H'->Q (.bl true) H')
theorem Ygl {vs:List V} {H:Hp} {Q:VK} {E:XK} (h:fB 0 vs H Q E):False:=by
 obtain ⟨v,w,d,_,_,_,h,_⟩:=h;omega
def Two (H:Hp) (a b:Addr) (vs ws:List V):Prop:=(H a=some (.lst vs)/\H b=some (.lst ws))\/(H a=some (.tup vs)/\H b=some (.tup ws))
inductive Lf (m:Nat) (vs:List V) (H:Hp) (Q:VK) (E_:XK):Prop
 | mk (a b:Addr) (xs ys:List V) (ds:List Ζ) (h0:vs=[.ref a,.ref b]) (h1:Two H a b xs ys) (h2:bw H xs ds) (h3:bw H ys ds) (h4:ds.length<=10000) (h5:δ ds<m) (h6:∀ H',Yj H H'->Q (.bl true) H')
theorem pY {k:Nat}  (R:g.Raw "_law_rows_same" "_law_rows_same" yt ["_law_one","_law_other"]) (uU:g.Fn k "_law_same" ["_law_one","_law_other"] (fB m)) (au:g.mg "len"=none) (Zj:g.mg "range"=none):g.Fn (k+1) "_law_rows_same" ["_law_one","_law_other"] (Lf m):=by
 refine R.fn Z5H (λvs H Q E h=>by obtain ⟨a,b,xs,ys,ds,rfl,ht,hv,hw,hl,hd,q⟩:=h;rfl) λf_ cdv A outer s H vs Q E hr h=>?_
 obtain ⟨a,b,xs,ys,ds,rfl,ht,hv,hw,hl,hd,q⟩:=h;refine ⟨_,(Ye (YF (Yq Eh (YN au YL (Ya (pv 0) Yd)) (YN au YL (Ya (pv 1) Yd)) (Ys _)) (Yi (Yn vo)) Yw) (Yi (Yn (Vl (wQ hr.units) (Xt (src:=[none,some 0,some 1]) (N':=(["_law_k","_law_one","_law_other"]:List Str)) (g:=Yy 0) (.own (.cap (i:=0) rfl rfl (by first | exact .inl rfl | exact .inr rfl) (.cap (i:=1) rfl rfl (by first | exact .inl rfl | exact .inr rfl) .nil))) rfl (Y7 rfl Zj (Ya (YN au YL (Ya (pv 0) Yd)) Yd)) (λcl C s₀ H₀ fp pn=>(Yu (i:=0) (show ax (["_law_k","_law_one","_law_other"]:List Str) by decide +kernel) rfl (.inl rfl) (.inr rfl))) (λcl C s₀ H₀ fp pn=>(R3 (UR (Wa (Yz uU hr (Ya (QZ (Yr (FP (K:=g.K)) (pv 1) (pv 0)) (Yr (Qw (K:=g.K)) (pv 1) (pv 0))) (Ya (QZ (Yr (FP (K:=g.K)) (pv 2) (pv 0)) (Yr (Qw (K:=g.K)) (pv 2) (pv 0))) Yd))))))) (λcl C s₀ H₀ fp pn=>(pv 0))) (YR Yd) (Ys _))))),?_⟩;have e1:=hv.length;have e2:=hw.length;have ln:∀ {H':Hp} {F:Int->Prop},Yj H H'->F (ds.length:Int)->mZ g.K H' a F/\mZ g.K H' b F:=λ{H' F} s f=>by
  rcases ht with ⟨h1,h2⟩ | ⟨h1,h2⟩
  ·exact ⟨⟨xs,.inl (ao.of (s _ _ h1)),by rw [e1];exact f⟩,⟨ys,.inl (ao.of (s _ _ h2)),by rw [e2];exact f⟩⟩
  ·exact ⟨⟨xs,.inr (aH.of (s _ _ h1)),by rw [e1];exact f⟩,⟨ys,.inr (aH.of (s _ _ h2)),by rw [e2];exact f⟩⟩
 walk_at "rd";refine (ln (.refl H) (ln (.refl H) (Y6 (by simp) ?_)).2).1;refine Yel (n:=ds.length) (by omega) (λR r=>?_) (λi H' hi sm R r=>?_) λD H' sm hD=>?_
 ·walk_at "rd"
  exact (ln (.refl H) r).1
 ·obtain ⟨x,hx⟩:∃ x,xs[i]?=some x:=⟨_,Ε (by omega)⟩
  obtain ⟨y,hy⟩:∃ y,ys[i]?=some y:=⟨_,Ε (by omega)⟩;obtain ⟨d,hd1,hxd⟩:=hv.at hx;obtain ⟨d',hd2,hyd⟩:=hw.at hy
  cases hd1.symm.trans hd2
  have hme:=W0 (Τ hd1);have go:fB m [x,y] H' (λx H1=>∃ i,x=V.bl i/\R (!i) H1) E0:=⟨x,y,d,rfl,hxd.keep sm,hyd.keep sm,by omega,λH2 s2=>⟨true,rfl,r H2 s2⟩⟩;rcases ht with ⟨h1,h2⟩ | ⟨h1,h2⟩
  ·refine .inl ?_
   walk_at "rd";refine ⟨xs,ao.of (sm _ _ h1),x,Yo hx,.inl ?_⟩;walk_at "rd";exact ⟨ys,ao.of (sm _ _ h2),y,Yo hy,go⟩
  ·refine .inr ?_
   walk_at "rd";refine ⟨xs,aH.of (sm _ _ h1),x,Yo hx,.inr ?_⟩;walk_at "rd";exact ⟨ys,aH.of (sm _ _ h2),y,Yo hy,go⟩
 ·refine ⟨by decide,λp hp=>?_⟩
  have s2:=Yj.aj hp (.lst []);exact ⟨_,.lst (ao.of (s2 _ _ hD)) .nil,_,.lst (ao.of Yc) .nil,by decide,q _ (sm.trans s2)⟩
theorem pZ {k:Nat}  (R:g.Raw "_law_same" "_law_same" yr ["_law_one","_law_other"]) (Lg:g.Fn k "_law_rows_same" ["_law_one","_law_other"] (Lf m)) (cj:g.mg "bool"=none) (Zw:g.mg "isinstance"=none) (aP:g.mg "list"=none) (cg:g.mg "tuple"=none):g.Fn (k+1) "_law_same" ["_law_one","_law_other"] (fB (m+1)):=by
 refine R.fn Ybk (λvs H Q E h=>by obtain ⟨v,w,d,rfl,hv,hw,hd,q⟩:=h;rfl) λf_ cdv A outer s H vs Q E hr h=>?_
 obtain ⟨v,w,d,rfl,hv,hw,hd,q⟩:=h;refine ⟨_,(Ye (YF (Wa (YN Zw Xb (Ya (pv 0) (Ya (WA (T:="list") aP) Yd)))) (Yi (Yn (vD (YN Zw Xb (Ya (pv 1) (Ya (WA (T:="list") aP) Yd))) (vC (Yz Lg hr (Ya (pv 0) (Ya (pv 1) Yd))))))) Yw) (Ye (YF (Wa (YN Zw Xb (Ya (pv 0) (Ya (WA (T:="tuple") cg) Yd)))) (Yi (Yn (vD (YN Zw Xb (Ya (pv 1) (Ya (WA (T:="tuple") cg) Yd))) (vC (Yz Lg hr (Ya (pv 0) (Ya (pv 1) Yd))))))) Yw) (Yi (Yn (vD (Vl YK (pv 0) (pv 1) (Ys _)) (vC (Vl YK (YN Zw Xb (Ya (pv 0) (Ya (WA (T:="bool") cj) Yd))) (YN Zw Xb (Ya (pv 1) (Ya (WA (T:="bool") cj) Yd))) (Ys _)))))))),?_⟩;walk_at "rd";have ty:=hv.ty (K:=g.K);have ty2:=hw.ty (K:=g.K)
 cases d with
 | list ds =>
  obtain ⟨a,xs,rfl,h1,hl1,hx⟩:=hv.rQ;obtain ⟨b,ys,rfl,h2,hl2,hy⟩:=hw.rQ;have e1:=hx.length;exact ⟨_,rfl,_,ty,true,rfl,UI ⟨_,rfl,_,ty2,true,rfl,UI ⟨a,b,xs,ys,ds,rfl,.inl ⟨h1,h2⟩,hx,hy,by omega,by rw [υ] at hd;omega,q⟩⟩⟩
 | tuple ds =>
  obtain ⟨a,xs,rfl,h1,hl1,hx⟩:=hv.rR;obtain ⟨b,ys,rfl,h2,hl2,hy⟩:=hw.rR;have e1:=hx.length;exact ⟨_,rfl,_,ty,false,rfl,Xq ⟨_,rfl,_,ty,true,rfl,UI ⟨_,rfl,_,ty2,true,rfl,UI ⟨a,b,xs,ys,ds,rfl,.inr ⟨h1,h2⟩,hx,hy,by omega,by rw [υ] at hd;omega,q⟩⟩⟩⟩
 | int i =>
  cases hv.xr
  cases hw.xr
  refine ⟨_,rfl,_,ty,false,rfl,Xq ⟨_,rfl,_,ty,false,rfl,Xq ⟨rfl,?_⟩⟩⟩;rw [if_pos rfl];exact ⟨_,rfl,_,ty,false,rfl,_,rfl,_,ty,false,rfl,rfl,q H (.refl H)⟩
 | str x =>
  cases hv.xu.1
  cases hw.xu.1
  refine ⟨_,rfl,_,ty,false,rfl,Xq ⟨_,rfl,_,ty,false,rfl,Xq ⟨rfl,?_⟩⟩⟩;rw [if_pos rfl];exact ⟨_,rfl,_,ty,false,rfl,_,rfl,_,ty,false,rfl,rfl,q H (.refl H)⟩
 | bool b =>
  cases hv.Gq
  cases hw.Gq
  refine ⟨_,rfl,_,ty,false,rfl,Xq ⟨_,rfl,_,ty,false,rfl,Xq ⟨rfl,?_⟩⟩⟩;rw [if_pos rfl];exact ⟨_,rfl,_,ty,true,rfl,_,rfl,_,ty,true,rfl,rfl,q H (.refl H)⟩
 | none =>
  have e1:v = .non:=by obtain ⟨L,h⟩:=hv;cases h;rfl
  have e2:w = .non:=by obtain ⟨L,h⟩:=hw;cases h;rfl
  subst e1 e2;refine ⟨_,rfl,_,ty,false,rfl,Xq ⟨_,rfl,_,ty,false,rfl,Xq ⟨rfl,?_⟩⟩⟩;rw [if_pos rfl];exact ⟨_,rfl,_,ty,false,rfl,_,rfl,_,ty,false,rfl,rfl,q H (.refl H)⟩
 | dict xs=>obtain ⟨L,h⟩:=hv;cases h
inductive p7 (m:Nat) (vs:List V) (H:Hp) (Q:VK) (E_:XK):Prop
 | mk (v:_) (d:_) (L:_) (h0:vs=[v]) (h1:DL H v d L) (h2:d.depth<m) (h3:L.length<=100000) (h4:∀ D H',H D=none->Yj H H'->H' D=some (.lst (L.map V.ref))->Q (.ref D) H')
theorem Ye4 {vs:List V} {H:Hp} {Q:VK} {E:XK} (h:p7 0 vs H Q E):False:=by
 obtain ⟨v,d,L,_,_,h,_⟩:=h;omega
theorem Ye5 {H:Hp} {vs:List V} {ds:List Ζ} {L:List Addr} {i:Nat} {x:V} (h:bH H (vs.drop i) (ds.drop i) L) (hx:vs[i]?=some x):∃ d Lx L',ds[i]?=some d/\L=Lx++L'/\DL H x d Lx/\bH H (vs.drop (i+1)) (ds.drop (i+1)) L':=by
 have hi:=(Η.mp hx).1;have e1:vs.drop i=x::vs.drop (i+1):=by rw [List.drop_eq_getElem_cons hi,(Η.mp hx).2]
 rw [e1] at h
 generalize hd:ds.drop i=es at h
 cases h with
 | @cons _ d Lx _ es' L' h1 h2 =>
  have hd0:ds[i]?=some d:=by
   have:=congrArg (λl=>l[0]?) hd;simpa using this
  have hd1:ds.drop (i+1)=es':=by
   have:=congrArg (List.drop 1) hd;simpa [List.drop_drop,Nat.add_comm] using this
  exact ⟨d,Lx,L',hd0,rfl,h1,by rw [hd1];exact h2⟩
def hdL (v:V):Ζ->List V
 | .list _=>[v]
 | _=>[]
theorem mF {k:Nat}  (R:g.Raw "_law_lists_in" "_law_lists_in" yu ["_law_value"]) (Bj:g.Fn k "_law_lists_in" ["_law_value"] (p7 m)) (Zw:g.mg "isinstance"=none) (aP:g.mg "list"=none) (cg:g.mg "tuple"=none):g.Fn (k+1) "_law_lists_in" ["_law_value"] (p7 (m+1)):=by
 refine R.fn yw (λvs H Q E h=>by obtain ⟨v,d,L,rfl,hv,hdp,mG,q⟩:=h;rfl) λf_ cdv A outer s H vs Q E hr h=>?_
 obtain ⟨v,d,L,rfl,hv,hdp,mG,q⟩:=h;refine ⟨_,(Ye (Yp (i:=1) yw.nd rfl (.inl rfl) (YR Yd)) (Ye (YF (Wa (YN Zw Xb (Ya (pv 0) (Ya (WA (T:="list") aP) Yd)))) (Yi (YY (Wy de eL eK Xm (pv 1) (Ya (pv 0) Yd)))) Yw) (Ye (YF (Vs (Wa (YN Zw Xb (Ya (pv 0) (Ya (WA (T:="list") aP) Yd)))) (Vh (Wa (YN Zw Xb (Ya (pv 0) (Ya (WA (T:="tuple") cg) Yd)))))).pt (Yi (Xp ai rfl (CN (Xc (pv 0)) (UU (pv 0))) (Yu (i:=2) yw.nd rfl (.inl rfl)) (Yi (YY (Wy de F.slot_list_extend F.type_list_extend RJ (pv 1) (Ya (Yz Bj hr (Ya (pv 2) Yd)) Yd)))))) Yw) (Yi (Yn (pv 1)))))),?_⟩;have h6:100000<sizeLine:=by decide
 refine rP (λσ H'=>∃ D,σ=[some v,some (.ref D),none]/\H D=none/\Yj H H'/\H' D=some (.lst (hdL v d))) ?_ ?_
 ·rintro σ H1 ⟨D,rfl,hD,s1,hH⟩
  have ty:=ud (K:=g.K) (hv.keep s1);have Pv:∀ (pre:List Addr) (vs:List V) (ds:List Ζ) (L0:List Addr),bH H vs ds L0->δ ds<m->pre.length+L0.length<=100000->L=pre++L0->hdL v d=pre.map V.ref->vs.length<=10000 ->
    ∃ Pv:Nat->St->Hp->Prop,Pv 0 [some v,some (V.ref D),none] H1/\(∀ i σ H',Pv i σ H'->Yj H H')/\(∀ i x σ H',vs[i]?=some x->Pv i σ H'->Yy 2 x σ H' λσ2 H2=>sV (tQ g.K "list" Ew (WU 1) (Vx (W7 (p7 m) [] E0 (Vx (WU 2) Vw)) Vw)) { nx:=Pv (i+1),rt:=Q,bk:=oK (WU 1) { nx:=λx H'=>Q V.non H',rt:=Q },ct:=Pv (i+1) } σ2 H2)/\(∀ σ H',Pv vs.length σ H'->oK (WU 1) { nx:=λx H'=>Q V.non H',rt:=Q } σ H'):=by
   intro pre vs ds L0 hds hdd iT hL hpre hvl;refine ⟨λi σ H'=>∃ o2 L1 L2,σ=[some v,some (.ref D),o2]/\Yj H H'/\H' D=some (.lst ((pre++L1).map V.ref))/\L0=L1++L2/\bH H (vs.drop i) (ds.drop i) L2,⟨none,[],L0,rfl,s1,by rw [a4,<- hpre];exact hH,rfl,hds⟩,λi σ H' ⟨_,_,_,_,s,_⟩=>s,?_,?_⟩
   ·rintro i x σ H' hx ⟨o2,L1,L2,rfl,s2,hd2,rfl,hdr⟩
    obtain ⟨e,Lx,L',he,rfl,hvx,hdr'⟩:=Ye5 hdr hx;have hme:=W0 (Τ he);simp only [Μ] at iT;walk_at "rd";refine ⟨.inl ⟨rfl,_,ao.of hd2⟩,x,e,Lx,rfl,hvx.keep s2,by omega,by omega,λD2 H3 hD2 s3 hd3=>?_⟩;exact ⟨D,D2,_,_,rfl,rfl,s3 _ _ hd2,hd3,by simp;omega,.bV hD (s2.trans s3) _,L1++Lx,by rw [Yc,<- a8,bu],L',by rw [bu],hdr'⟩
   ·rintro σ H' ⟨o2,L1,L2,rfl,s2,hd2,rfl,hdr⟩
    have e1:=hds.length;rw [g9,show ds.drop vs.length=[] by rw [e1];exact g9] at hdr
    cases hdr
    walk_at "rd";rw [a4] at hL
    exact q D H' hD s2 (by rw [hL];exact hd2)
  walk_at "rd"
  cases hv with
  | non=>exact ⟨_,rfl,_,ty,false,rfl,Xq ⟨_,rfl,_,ty,false,rfl,Xq (q _ _ hD s1 hH)⟩⟩
  | bl i=>exact ⟨_,rfl,_,ty,false,rfl,Xq ⟨_,rfl,_,ty,false,rfl,Xq (q _ _ hD s1 hH)⟩⟩
  | int i=>exact ⟨_,rfl,_,ty,false,rfl,Xq ⟨_,rfl,_,ty,false,rfl,Xq (q _ _ hD s1 hH)⟩⟩
  | str x h=>exact ⟨_,rfl,_,ty,false,rfl,Xq ⟨_,rfl,_,ty,false,rfl,Xq (q _ _ hD s1 hH)⟩⟩
  | @lst a vs ds L h hl hds =>
   obtain ⟨Pv,p0,ps,p1,p2⟩:=Pv [a] vs ds L hds (by rw [υ] at hdp;omega) (by simpa [Nat.add_comm] using mG) rfl rfl hl;exact ⟨_,rfl,_,ty,true,rfl,UI (TF (QY (K:=g.K) (a:=a) (xs:=vs) Pv (λR r=>by walk_at "rd";exact r) p0 (λi σ H' _ p=>ao.of ((ps i σ H' p) _ _ h)) p1 p2))⟩
  | @tup a vs ds L h hl hds =>
   obtain ⟨Pv,p0,ps,p1,p2⟩:=Pv [] vs ds L hds (by rw [υ] at hdp;omega) (by simpa using mG) rfl rfl hl;exact ⟨_,rfl,_,ty,false,rfl,Xq ⟨_,rfl,_,ty,true,rfl,UI (TJ (Gf (K:=g.K) (a:=a) (xs:=vs) Pv (λR r=>by walk_at "rd";exact r) p0 (λi σ H' _ p=>aH.of ((ps i σ H' p) _ _ h)) p1 p2))⟩⟩
 ·intro N hN
  walk_at "rd";refine ⟨few (by decide),λD hD=>?_⟩;have u:=Yj.aj hD (.lst []);have ty:=ud (K:=g.K) (hv.keep u)
  cases hv with
  | non=>exact ⟨_,rfl,_,ty,false,rfl,Xq (hN _ _ ⟨D,rfl,hD,u,Yc⟩)⟩
  | bl i=>exact ⟨_,rfl,_,ty,false,rfl,Xq (hN _ _ ⟨D,rfl,hD,u,Yc⟩)⟩
  | int i=>exact ⟨_,rfl,_,ty,false,rfl,Xq (hN _ _ ⟨D,rfl,hD,u,Yc⟩)⟩
  | str x h=>exact ⟨_,rfl,_,ty,false,rfl,Xq (hN _ _ ⟨D,rfl,hD,u,Yc⟩)⟩
  | @lst a vs ds L h hl hds=>exact ⟨_,rfl,_,ty,true,rfl,UI ⟨.inl ⟨rfl,_,ao.of Yc⟩,_,Yc,few (by decide),hN _ _ ⟨D,rfl,hD,.bV hD u _,Yc⟩⟩⟩
  | @tup a vs ds L h hl hds=>exact ⟨_,rfl,_,ty,false,rfl,Xq (hN _ _ ⟨D,rfl,hD,u,Yc⟩)⟩
def WL (H:Hp) (a:Addr):Nat:=match H a with
 | some (.lst vs)=>vs.length
 | _=>0
theorem Lh {H:Hp} {a:Addr} {vs:List V} (h:H a=some (.lst vs)):WL H a=vs.length:=by unfold WL;rw [h]
theorem Bk {L:List Addr} {i:Nat} {x:V} (h:(L.map V.ref)[i]?=some x):∃ a,L[i]?=some a/\x = .ref a/\a∈L:=by
 rw [Λ] at h
 obtain ⟨a,ha,rfl⟩:=ε.mp h;exact ⟨a,ha,rfl,Τ ha⟩
theorem Q7 {K:Ι} {H:Hp} {f:Addr->Int}:∀ (L:List Addr),bI K H (L.map λa => .int (f a)) (L.map λa => .int (f a))
 | [] => .nil
 | a::L => .cons (.int _) (Q7 L)
theorem Li {K:Ι} {H:Hp} {f:Addr->Int} {L:List Addr} {p:Addr} (h:H p=some (.lst (L.map λa => .int (f a)))):Den K H (.ref p) (.list (L.map λa => .int (f a))) := .lst (ao.of h) (Q7 L)
theorem Q8 {f:Addr->Int}:∀ (L:List Addr),δ (L.map λa=>PyData.int (f a))<=1
 | []=>by simp [δ]
 | a::L=>by have:=Q8 (f:=f) L;simp only [aa,δ,υ];omega
theorem Yc5 {f:Addr->Int} {L:List Addr}:(PyData.list (L.map λa=>PyData.int (f a))).depth<=64:=by
 rw [υ];have:=Q8 (f:=f) L;omega
inductive Lj (K:Ι) (vs:List V) (H:Hp) (Q:VK) (E_:XK):Prop
 | mk (v:_) (d:_) (L:_) (h0:vs=[v]) (h1:DL H v d L) (h2:L.Nodup) (h3:d.depth<6) (h4:L.length<=100000) (h5:∀ H',(∀ a o,a∉L->H a=some o->H' a=some o)->Q (.bl true) H')
theorem Yc6 {k:Nat}  (R:g.Raw "_law_own" "_law_own" yC ["_law_value"]) (Bj:g.Fn k "_law_lists_in" ["_law_value"] (p7 6)) (au:g.mg "len"=none):g.Fn (k+1) "_law_own" ["_law_value"] (Lj g.K):=by
 refine R.fn um (λvs H Q E h=>by obtain ⟨v,d,L,rfl,hv,hnd,hdp,mG,q⟩:=h;rfl) λf_ cdv A outer s H vs Q E hr h=>?_
 obtain ⟨v,d,L,rfl,hv,hnd,hdp,mG,q⟩:=h;refine ⟨_,(Ye (Yp (i:=1) um.nd rfl (.inl rfl) (Yz Bj hr (Ya (pv 0) Yd))) (Ye (Ga (i:=2) (src:=[none]) (N':=(["_law_one"]:List Str)) (g:=Yy 0) um.nd rfl (.inl rfl) (.own .nil) rfl (Xc (pv 1)) (λcl C s₀ H₀ fp pn=>(Yu (i:=0) (show ax (["_law_one"]:List Str) by decide +kernel) rfl (.inl rfl) (.inr rfl))) (λcl C s₀ H₀ fp pn=>Y0) (λcl C s₀ H₀ fp pn=>(YN au (VP (K:=g.K)) (Ya (pv 0) Yd))) (by intro x hx;simp at hx) (by rfl) (by decide) (by decide +kernel) (by intro _;rfl) (by rfl) (by first | exact .inl rfl | exact .inr rfl | assumption)) (Ye (Xp ai rfl (Xc (pv 1)) (Yu (i:=3) um.nd rfl (.inl rfl)) (Yi (YY (Wy de eL eK Xm (pv 3) (Ya Dv Yd))))) (Yi (Yn (Vl (wQ hr.units) (Xt (src:=[none]) (N':=(["_law_one"]:List Str)) (g:=Yy 0) (.own .nil) rfl (Xc (pv 1)) (λcl C s₀ H₀ fp pn=>(Yu (i:=0) (show ax (["_law_one"]:List Str) by decide +kernel) rfl (.inl rfl) (.inr rfl))) (λcl C s₀ H₀ fp pn=>Y0) (λcl C s₀ H₀ fp pn=>(YN au (VP (K:=g.K)) (Ya (pv 0) Yd))) (by intro x hx;simp at hx)) (Xt (src:=[none]) (N':=(["_law_size_here"]:List Str)) (g:=Yy 0) (.own .nil) rfl (Xc (pv 2)) (λcl C s₀ H₀ fp pn=>(Yu (i:=0) (show ax (["_law_size_here"]:List Str) by decide +kernel) rfl (.inl rfl) (.inr rfl))) (λcl C s₀ H₀ fp pn=>Y0) (λcl C s₀ H₀ fp pn=>(Yl YW (pv 0) Yg)) (by intro x hx;simp at hx)) (Ys _))))))),?_⟩;have h6:100000<sizeLine:=by decide
 have hm:=hv.mem;refine rP (λσ H'=>∃ D1 D2,σ=[some v,some (.ref D1),some (.ref D2),none]/\Yj H H'/\H D1=none/\H D2=none/\H' D1=some (.lst (L.map V.ref))/\H' D2=some (.lst (L.map λa => .int (WL H a:Nat)))) ?_ ?_
 ·rintro σ H1 ⟨D1,D2,rfl,s1,n1,n2,h1,h2⟩
  have d1:D1∉L:=λh=>by obtain ⟨vs,e,_⟩:=hm D1 h;rw [n1] at e;cases e
  have d2:D2∉L:=λh=>by obtain ⟨vs,e,_⟩:=hm D2 h;rw [n2] at e;cases e
  refine wR (λσ H'=>∃ o3,σ=[some v,some (.ref D1),some (.ref D2),o3]/\(∀ a∈L,∃ vs,H a=some (.lst vs)/\H' a=some (.lst (vs++[.non])))/\∀ a o,a∉L->H1 a=some o->H' a=some o) ?_ ?_
  ·rintro σ H2 ⟨o3,rfl,hin,hout⟩
   have k1:=hout _ _ d1 h1;have k2:=hout _ _ d2 h2;walk_at "rd";refine V3 (K:=g.K) (xs:=L.map V.ref) (L.map λa => .int ((WL H a:Int)+1)) (λR r=>by walk_at "rd";exact r D1 _ (.refl _) (ao.of k1)) (by simp) (by rw [Β];omega) ?_ ?_
   ·intro i x y H' hx hy sm R r
    obtain ⟨a,ha,rfl,ham⟩:=Bk hx;rw [Λ,ha] at hy
    have:V.int ((WL H a:Int)+1)=y:=Γ hy;subst this;obtain ⟨vs,e1,e2⟩:=hin a ham;walk_at "rd";refine ⟨_,.inl (ao.of (sm _ _ e2)),?_⟩;rw [Lh e1] at r
    rw [Μ,av,dS];exact r H' (.refl _)
   ·intro D3 H3 hD3 s3 h3
    refine V3 (K:=g.K) (xs:=L.map λa => .int (WL H a:Nat)) (L.map λa => .int ((WL H a:Int)+1)) (λR r=>by walk_at "rd";exact r D2 _ (.refl _) (ao.of (s3 _ _ k2))) (by simp) (by rw [Β];omega) ?_ ?_
    ·intro i x y H' hx hy sm R r
     rw [Λ] at hx
     obtain ⟨a,ha,rfl⟩:=ε.mp hx;rw [Λ,ha] at hy
     have:V.int ((WL H a:Int)+1)=y:=Γ hy;subst this;walk_at "rd";exact r H' (.refl _)
    ·intro D4 H4 HX s4 h4
     have e1:=Li (K:=g.K) (f:=λa=>(WL H a:Int)+1) (s4 _ _ h3);have e2:=Li (K:=g.K) (f:=λa=>(WL H a:Int)+1) h4;refine ⟨_,e1,_,e2,Yc5,?_⟩
     ·rw [PySem.SeqAt.eqv_refl _ (Den.lay (K:=g.K) e1)]
      exact q _ λa o ha h=>(s3.trans s4) _ _ (hout a o ha (s1 _ _ h))
  ·intro N hN
   walk_at "rd";refine QY (K:=g.K) (a:=D1) (xs:=L.map V.ref) (λi σ H'=>∃ o3,σ=[some v,some (.ref D1),some (.ref D2),o3]/\(∀ j a,L[j]?=some a->∃ vs,H a=some (.lst vs)/\vs.length<=10000/\H' a=some (.lst (if j<i then vs++[.non] else vs)))/\∀ a o,a∉L->H1 a=some o->H' a=some o) (λR r=>by walk_at "rd";exact r) ⟨none,rfl,λj a ha=>?_,λa o _ h=>h⟩ (λi σ H' _ ⟨_,_,_,ho⟩=>ao.of (ho _ _ d1 h1)) ?_ ?_
   ·obtain ⟨vs,e,hl⟩:=hm a (Τ ha)
    exact ⟨vs,e,hl,by rw [if_neg (by omega)];exact s1 _ _ e⟩
   ·rintro i x σ H' hx ⟨o3,rfl,hin,hout⟩
    obtain ⟨a,ha,rfl,ham⟩:=Bk hx;obtain ⟨vs,e1,e2,e3⟩:=hin i a ha;rw [if_neg (by omega)] at e3
    walk_at "rd";refine ⟨.inl ⟨rfl,_,ao.of e3⟩,vs,e3,by omega,λj b hb=>?_,λb o hb h=>?_⟩
    ·obtain ⟨us,f1,f2,f3⟩:=hin j b hb
     refine ⟨us,f1,f2,?_⟩;by_cases c:j=i
     ·subst c
      rw [ha] at hb
      cases hb
      rw [e1] at f1
      cases f1
      rw [Yc,if_pos (by omega)]
     ·have hne:b≠a:=λe=>by
       subst e;exact c ((List.getElem?_inj (Η.mp hb).1 hnd).mp (hb.trans ha.symm))
      rw [Yh hne,f3];by_cases c2:j<i
      ·rw [if_pos c2,if_pos (by omega)]
      ·rw [if_neg c2,if_neg (by omega)]
    ·have hne:b≠a:=λe=>by subst e;exact hb ham
     rw [Yh hne];exact hout b o hb h
   ·rintro σ H' ⟨o3,rfl,hin,hout⟩
    refine hN _ _ ⟨o3,rfl,λa ha=>?_,hout⟩;obtain ⟨j,hj⟩:=List.mem_iff_getElem?.mp ha;obtain ⟨vs,f1,f2,f3⟩:=hin j a hj;have hjl:=(Η.mp hj).1;rw [if_pos (by rw [Β];exact hjl)] at f3
    exact ⟨vs,f1,f3⟩
 ·intro N hN
  walk_at "rd";refine ⟨v,d,L,rfl,hv,hdp,mG,λD1 H1 n1 s1 h1=>?_⟩;refine V3 (K:=g.K) (xs:=L.map V.ref) (L.map λa => .int (WL H a:Nat)) (λR r=>by walk_at "rd";exact r D1 _ (.refl _) (ao.of h1)) (by simp) (by rw [Β];omega) ?_ ?_
  ·intro i x y H' hx hy sm R r
   obtain ⟨a,ha,rfl,ham⟩:=Bk hx;rw [Λ,ha] at hy
   have:V.int (WL H a:Nat)=y:=Γ hy;subst this;obtain ⟨vs,e1,e2⟩:=hm a ham;walk_at "rd";refine ⟨_,.inl (ao.of ((s1.trans sm) _ _ e1)),?_⟩;rw [Lh e1] at r
   exact r H' (.refl _)
  ·intro D2 H2 hD2 s2 h2
   exact hN _ _ ⟨D1,D2,rfl,s1.trans s2,n1,s1.free hD2,s2 _ _ h1,h2⟩
noncomputable def W5:Nat->Nat
 | 0=>0
 | d+1=>1+5*W5 d
def jc (d:Nat) (x:Ζ):Prop:=x.depth<=d/\L2.cnt x<=W5 d
theorem uV {d:Nat}:∀ {es:List Ζ},(∀ e∈es,jc d e)->δ es<=d/\L2.aX es<=es.length*W5 d
 | [],_=>⟨by rw [δ];omega,by rw [L2.aX];omega⟩
 | e::es,h=>by
  have h1:=h e (.head _);have h2:=uV (es:=es) λx hx=>h x (.tail _ hx)
  have e1:=h1.1;have e2:=h1.2;rw [δ,L2.aX,χ,ib];omega
theorem Lk {d:Nat} {es:List Ζ} (h:∀ e∈es,jc d e) (hl:es.length<=5):jc (d+1) (.list es):=by
 have:=uV h;refine ⟨by rw [υ];omega,?_⟩;rw [L2.cnt,W5];have:es.length*W5 d<=5*W5 d:=c8 _ hl;omega
theorem QQ {d:Nat} {es:List Ζ} (h:∀ e∈es,jc d e) (hl:es.length<=5):jc (d+1) (.tuple es):=by
 have:=uV h;refine ⟨by rw [υ];omega,?_⟩;rw [L2.cnt,W5];have:es.length*W5 d<=5*W5 d:=c8 _ hl;omega
theorem Ygm (d:Nat) (i:Int):jc d (.int i):=⟨by rw [υ];omega,by rw [L2.cnt];omega⟩
theorem QR (d:Nat) (x:Str):jc d (.str x):=⟨by rw [υ];omega,by rw [L2.cnt];omega⟩
theorem Ygn {G:Nat->List Ζ}:∀ {n:Nat} {es:List Ζ},es∈bZ G n->∀ e∈es,∃ f,f<=n/\e∈G f:=by
 intro n
 induction n using Nat.strongRecOn with
 | ind n ih =>
  intro es h
  cases n with
  | zero =>
   rw [VG] at h
   cases Ξ.mp h
   intro e he
   cases he
  | succ n =>
   rw [XA,a9] at h
   obtain ⟨f,hf,h⟩:=h;have:=a7.mp hf;rw [aZ,a9] at h
   obtain ⟨d,hd,h⟩:=h;obtain ⟨es',h',rfl⟩:=ar.mp h;intro e he;rcases Φ.mp he with rfl | he
   ·exact ⟨f,by omega,hd⟩
   ·obtain ⟨f',h1,h2⟩:=ih (n - f) (by omega) h' e he
    exact ⟨f',by omega,h2⟩
theorem Ye6 {bk:List Nat->Sh} {p q:Sh} {s:Nat} {es:List Ζ} (h:es∈bL bk [p,q] s):∃ d1 d2 f t,es=[d1,d2]/\d1∈en bk p f/\d2∈en bk q t/\f<=s/\t<=s:=by
 rw [XT,a9] at h
 obtain ⟨f,hf,h⟩:=h;have:=a7.mp hf;rw [aZ,a9] at h
 obtain ⟨d,hd,h⟩:=h;obtain ⟨es',h',rfl⟩:=ar.mp h;rw [XT,a9] at h'
 obtain ⟨t,ht,h'⟩:=h';have:=a7.mp ht;rw [aZ,a9] at h'
 obtain ⟨d',hd',h'⟩:=h';obtain ⟨es2,h2,rfl⟩:=ar.mp h';have e:=Ux h2
 cases es2 with
 | nil=>exact ⟨d,d',f,t,rfl,hd,hd',by omega,by omega⟩
 | cons _ _=>cases e
theorem Ln {bk:List Nat->Sh} {sh:Sh} (h:dM sh) (d s:Nat):∀ x∈en bk sh s,jc d x:=by
 intro x hx
 cases h with
 | w lo span h =>
  rw [pq] at hx
  obtain ⟨r,_,rfl⟩:=ar.mp hx;exact Ygm _ _
 | t sg _ h _ =>
  rw [VH] at hx
  obtain ⟨r,_,rfl⟩:=ar.mp hx;exact QR _ _
theorem Dg {nm:List Nat} {lf:Sh} (bK:dM lf) {d:Nat} {sh:Sh} (h:Dr nm d sh):∀ s,s<=5->∀ x∈en (aF [(nm,lf)]) sh s,jc d x:=by
 induction h with
 | lf h=>exact λs _=>Ln h _ s
 | use =>
  intro s hs x hx
  cases s with
  | zero=>rw [Ur] at hx;cases hx
  | succ s =>
   rw [V9,K9] at hx
   exact Ln bK _ s x hx
 | many _ ih =>
  intro s hs x hx;rw [Xo] at hx
  obtain ⟨es,he,rfl⟩:=ar.mp hx;have:=QO he;refine Lk (λe h=>?_) (by omega);obtain ⟨f,hf,h⟩:=Ygn he e h;exact ih f (by omega) e h
 | @alike d p k h1 h3 _ ih =>
  intro s hs x hx;rw [W2] at hx
  split at hx
  ·cases hx
  ·obtain ⟨e,he,rfl⟩:=ar.mp hx
   have:=cE s k;refine Lk (λe' h=>?_) (by rw [d5];omega);rw [(List.mem_replicate.mp h).2];exact ih (s / k - 1) (by omega) e he
 | row _ _ ih1 ih2 =>
  intro s hs x hx;rw [W1] at hx
  obtain ⟨es,he,rfl⟩:=ar.mp hx;obtain ⟨d1,d2,f,t,rfl,h1,h2,hf,ht⟩:=Ye6 he;refine QQ (λe h=>?_) (by simp);simp only [Φ,ac,or_false] at h;rcases h with rfl | rfl
  ·exact ih1 f (by omega) _ h1
  ·exact ih2 t (by omega) _ h2
 | pick _ _ _ _ ih1 ih2 =>
  intro s hs x hx;rw [WR,XJ,XJ,bW,cC,a4] at hx
  rcases bg.mp hx with hx | hx
  ·obtain ⟨e,he,rfl⟩:=ar.mp hx
   refine QQ (λe' h=>?_) (by simp);simp only [Φ,ac,or_false] at h;rcases h with rfl | rfl
   ·exact QR _ _
   ·exact ih1 s hs _ he
  ·obtain ⟨e,he,rfl⟩:=ar.mp hx
   refine QQ (λe' h=>?_) (by simp);simp only [Φ,ac,or_false] at h;rcases h with rfl | rfl
   ·exact QR _ _
   ·exact ih2 s hs _ he
theorem Yg2 {nm:List Nat} {lf sh:Sh} (bK:dM lf) (h:Dr nm 2 sh) {s:Nat} (hs:s<=5) (hn:(en (aF [(nm,lf)]) sh s).length<=60):(PyData.list (en (aF [(nm,lf)]) sh s)).depth<=3/\L2.cnt (PyData.list (en (aF [(nm,lf)]) sh s))<=1000:=by
 have:=uV (Dg bK h s hs);have e:W5 2=6:=rfl;rw [e] at this
 rw [υ,L2.cnt];omega
structure LQ (K:Ι) (H:Hp) (B a:Addr) (nm:List Nat) (lf sh:Sh) (n:Nat) (Du:Addr):Prop where
 lz:LZ K H B a nm lf sh
 hn:n<=5
 hc:(en (aF [(nm,lf)]) sh n).length<=60
 du:cW H Du (en (aF [(nm,lf)]) sh n)
 ok:bc (S nm)=true
theorem Ye7 {k:Nat}  (Lp:g.gO k "all_values" ["book","shape","size","most"] [.int 400] (Ku g.K)) (j8:g.Fn k "_law_cell_at" ["_law_script","_law_k"] (jl g.K)) (uP:g.Fn k "_law_name" ["_law_cell","_law_k"] (Bb)) (gn:g.Fn k "_law_all" ["_law_book","_law_shape_here","_law_size_here"] (cI g.K 118)) (Bf:g.Fn k "_law_leaf" ["_law_cell"] (uM g.K)) (uQ:g.Fn k "_law_shape" ["_law_script","_law_deep","_law_at","_law_name_here"] (uO g.K 3)) (nM:g.Fn k "_law_size" ["_law_book","_law_shape_here","_law_want","_law_most"] (j9 g.K)) (uU:g.Fn k "_law_same" ["_law_one","_law_other"] (fB 5)) (p8:g.Fn k "_law_own" ["_law_value"] (Lj g.K)) (Zw:g.mg "isinstance"=none) (au:g.mg "len"=none) (aP:g.mg "list"=none) (cu:g.mg "min"=none):V2 g k ["_law_script","_law_name_here","_law_book","_law_shape_here","_law_size_here","_law_due","_law_most","_law_handed","_law_found"] "law" uo (U8 g.K):=by
 refine λf_ cdv A outer s H vs Q E hr h=>?_
 obtain ⟨a,ns,rfl,hS,hl,q⟩:=h;refine ⟨_,(Ye (Yp (i:=1) X1.nd rfl (.inl rfl) (Yz uP hr (Ya (Yz j8 hr (Ya (pv 0) (Ya Yg Yd))) (Ya Yg Yd)))) (Ye (Yp (i:=2) X1.nd rfl (.inl rfl) (YR (Ya (Y9 (Ya (pv 1) (Ya (Yz Bf hr (Ya (Yz j8 hr (Ya (pv 0) (Ya Yg Yd))) Yd)) Yd))) Yd (Wl _ _ _ _ _)))) (Ye (Yp (i:=3) X1.nd rfl (.inl rfl) (Yz uQ hr (Ya (pv 0) (Ya Yg (Ya Yg (Ya (pv 1) Yd)))))) (Ye (Yp (i:=4) X1.nd rfl (.inl rfl) (Yz nM hr (Ya (pv 2) (Ya (pv 3) (Ya (Yl Xg (Yz j8 hr (Ya (pv 0) (Ya Yg Yd))) Yg) (Ya Yg Yd)))))) (Ye (Yp (i:=5) X1.nd rfl (.inl rfl) (Yz gn hr (Ya (pv 2) (Ya (pv 3) (Ya (pv 4) Yd))))) (Ye (Yp (i:=6) X1.nd rfl (.inl rfl) (YN cu (VU rfl) (Ya Yg (Ya (Yl YW (YN au YL (Ya (pv 5) Yd)) (Yl Xg (Yz j8 hr (Ya (pv 0) (Ya Yg Yd))) Yg)) Yd)))) (Ye (YF (Yq YK (Yl Xg (Yl Y1 (Yz j8 hr (Ya (pv 0) (Ya Yg Yd))) Yg) Yg) Yg (Ys _)) (Yi (Yp (i:=6) X1.nd rfl (.inl rfl) (YN au YL (Ya (pv 5) Yd)))) Yw) (Ye (Yp (i:=7) X1.nd rfl (.inl rfl) (U6 aP VY (Ya (pv 2) Yd))) (Ye (Yp (i:=8) X1.nd rfl (.inl rfl) (Yz Lp.full hr (Ya (pv 7) (Ya (pv 3) (Ya (pv 4) (Ya (pv 6) Yd)))))) (Ye (YF (Vs (UR (Wa (YN Zw Xb (Ya (pv 8) (Ya (WA (T:="list") aP) Yd))))) (Vs (UR (Wa (Yz uU hr (Ya (pv 8) (Ya (pv 5) Yd))))) (Vh (Yq (S9 hr.units) (pv 7) (pv 2) (Ys _))))).pt (Yi (Yn vo)) Yw) (Ye (YF (UR (Wa (Yz p8 hr (Ya (pv 8) Yd)))) (Yi (Yn vo)) Yw) (Yi (Yn (Yz uU hr (Ya (T7 Lp.d hr (Ya (pv 7) (Ya (pv 3) (Ya (pv 4) Yd))) (by omega) (by rfl) (by rfl) (by decide) (by rfl) (by rfl)) (Ya (pv 5) Yd)))))))))))))))),?_⟩;refine Nu (λσ H'=>∃ (B p:Addr) (nm:List Nat) (lf sh:Sh) (n:Nat) (Du:Addr),σ=[some (.ref a),some (.str (S nm)),some (.ref B),some (.ref p),some (.int n),some (.ref Du),none,none,none]/\Yj H H'/\LQ g.K H' B p nm lf sh n Du) ?_ (λN hN=>?_)
 rotate_left
 ·walk_at "rd"
  refine ⟨a,ns,7,rfl,hS,hl,_,0,rfl,?_⟩;have ok:=Vq (Ba (ns.getD 7 0) 0);generalize jA (ns.getD 7 0) 0=nm at ok ⊢;refine ⟨a,ns,8,rfl,hS,hl,_,rfl,λlp lf H1 bK s1 hk=>⟨few (by decide),λT hT=>⟨few (by decide),λB hB=>?_⟩⟩⟩;have sT:=Yj.aj hT (.tup [.str (S nm),.ref lp]);have sB:=Yj.aj hB (.lst [.ref T]);have s2:=s1.trans (sT.trans sB);refine ⟨a,ns,2,0,nm,rfl,s2.seq hS,hl,ok,by decide,by decide,λp sh H2 hd s3 hp=>⟨a,ns,9,rfl,(s2.trans s3).seq hS,hl,_,rfl,by decide,?_⟩⟩;obtain ⟨w,ew,hw⟩:=WQ (ns.getD 9 0) (j:=6) (by decide);rw [ew];have lb:LB g.K H2 B nm lf:=⟨⟨T,lp,ao.of (s3 _ _ Yc),aH.of (s3 _ _ (sB _ _ Yc)),hk.keep ((sT.trans sB).trans s3)⟩,(Vd bK).1,Lb bK bK,(Vd (prs:=[]) bK).2.2⟩;have lz:LZ g.K H2 B p nm lf sh:=⟨lb,bK,hp,hd⟩;refine ⟨B,p,nm,lf,sh,w,rfl,lz,by omega,λn H3 s4 hn hc=>⟨B,p,nm,lf,sh,n,rfl,(lz.keep s4).la hn,λDu H4 s5 _ hdu=>hN _ _ ⟨B,p,nm,lf,sh,n,Du,rfl,(s2.trans s3).trans (s4.trans s5),(lz.keep s4).keep s5,hn,hc,hdu,ok⟩⟩⟩
 rintro σ H1 ⟨B,p,nm,lf,sh,n,Du,rfl,s1,L⟩;refine rP (λσ H'=>∃ (most:Int),σ=[some (.ref a),some (.str (S nm)),some (.ref B),some (.ref p),some (.int n),some (.ref Du),some (.int most),none,none]/\H'=H1/\((en (aF [(nm,lf)]) sh n).length:Int)<=most) ?_ (λN hN=>?_)
 rotate_left
 ·obtain ⟨vs,hD,hv⟩:=L.du
  have hc:=L.hc;have ln:∀ {F:Int->Prop},F ((en (aF [(nm,lf)]) sh n).length:Int)->mZ g.K H1 Du F:=λf=>⟨vs,.inl (ao.of hD),by rw [hv.length];exact f⟩
  walk_at "rd";refine ln ⟨a,ns,10,rfl,s1.seq hS,hl,_,rfl,by decide,a,ns,9,rfl,s1.seq hS,hl,_,rfl,YS (by decide) (by decide),by decide,Xv (λ_=>ln (hN _ _ ⟨_,rfl,rfl,Int.le_refl _⟩)) (λ_=>hN _ _ ⟨_,rfl,rfl,?_⟩)⟩
  split<;>omega
 rintro σ H2 ⟨most,rfl,rfl,hm⟩;walk_at "rd";obtain ⟨T,lp,hB,hT,hlp⟩:=L.lz.lb.hB;refine ⟨_,.inl hB,λh gh=>?_⟩;have uR:=Yj.aj gh (.lst [.ref T]);have due:=Yg2 L.lz.lf L.lz.dr L.hn L.hc;have ask:∀ H',Yj (upd H2 h (.lst [.ref T])) H'->Av g.K H' [(nm,lf)] h p sh n:=λH' s=>by
  have s2:=uR.trans s;refine ⟨⟨[.ref T],s _ _ Yc,rfl,λi v q h1 h2=>?_⟩,L.lz.hk.keep s2,Ld L.lz.dr,?_,Ygk L.lz.dr (by decide),Le L.lz.dr,L.hn,by have:=L.hc;omega⟩
  ·match i,h1,h2 with
   | 0,h1,h2 =>
    cases Γ h1
    cases Γ h2
    exact ⟨T,lp,rfl,s2.tup hT,hlp.keep s2⟩
   | i+1,h1,_=>simp at h1
  ·refine ⟨by simp,λq hq=>?_,λq hq=>?_,λq hq=>?_⟩<;>(have e:=Ξ.mp hq;subst e)
   ·exact (Vd L.lz.lf).1
   ·rw [(Vd (prs:=[]) L.lz.lf).2.1];decide
   ·rw [(Vd (prs:=[]) L.lz.lf).2.2];decide
 obtain ⟨vs,hDu,hvs⟩:=L.du;have hvl:=hvs.length;have hcl:=L.hc;have dd:∀ H',Yj H2 H'->DV H' (.ref Du) (.list (en (aF [(nm,lf)]) sh n)):=λH' s => .lst (s _ _ hDu) (by omega) (hvs.keep s)
 have Bl:∀ H' (b:Addr),Yj H2 H'->ao g.K H' b [.ref T]->Den g.K H' (.ref b) (.list [.tuple [.str (S nm),kd lf]]):=λH' b s hb => .lst hb (.cons (.tup (s.tup hT) (.cons (.str _ L.ok) (.cons (hlp.den.keep s) .nil))) .nil)
 refine ⟨[(nm,lf)],h,p,sh,n,most,rfl,ask _ (.refl _),hm,λX Lx H3 s3 ow=>?_⟩;have Lq:=uR.trans s3;refine ⟨_,rfl,_,ud (K:=g.K) ow.vl,true,rfl,Y6 (by decide) ⟨_,_,_,rfl,⟨Lx,ow.vl⟩,dd _ Lq,by omega,λH4 s4=>⟨true,rfl,Y6 (by decide) ?_⟩⟩⟩;have qb:=Lq.trans s4;have bl:=K5 L.lz.lf;refine ⟨_,Bl H4 h qb (ao.of ((s3.trans s4) _ _ Yc)),_,Bl H4 B qb (qb.seq hB),by simp only [υ,δ];omega,Y6 (by rw [PySem.SeqAt.eqv_refl _ (Den.lay (K:=g.K) (Bl H4 B qb (qb.seq hB)))];decide) ?_⟩;refine ⟨_,_,Lx,rfl,ow.vl.keep s4,ow.nd,by omega,by rw [ow.vl.cnt];omega,λH5 s5=>⟨true,rfl,Y6 (by decide) ?_⟩⟩;have Lr:Yj (upd H2 h (.lst [.ref T])) H5:=λb o e=>s5 b o (λhb=>by rw [ow.new b hb] at e;cases e) (s4 _ _ (s3 _ _ e))
 refine ⟨[(nm,lf)],h,p,sh,n,400,rfl,ask _ Lr,by omega,λX2 L2 H6 s6 ow2=>?_⟩;exact ⟨_,_,_,rfl,⟨L2,ow2.vl⟩,dd _ (uR.trans (Lr.trans s6)),by omega,λH7 s7=>q H7⟩
theorem kj {α:Type} {us:List α} (h:us.length=1):∃ a0,us=[a0]:=by
 match us,h with
 | [a0],_=>exact ⟨_,rfl⟩
theorem cJ {α:Type} {us:List α} (h:us.length=2):∃ a0 a1,us=[a0,a1]:=by
 match us,h with
 | [a0,a1],_=>exact ⟨_,_,rfl⟩
theorem gY {α:Type} {us:List α} (h:us.length=3):∃ a0 a1 a2,us=[a0,a1,a2]:=by
 match us,h with
 | [a0,a1,a2],_=>exact ⟨_,_,_,rfl⟩
theorem Bm {α:Type} {us:List α} (h:us.length=4):∃ a0 a1 a2 a3,us=[a0,a1,a2,a3]:=by
 match us,h with
 | [a0,a1,a2,a3],_=>exact ⟨_,_,_,_,rfl⟩
structure Top (K:Ι) (mg:Str->Option Α) (Z1:Addr) (Zl:Addr) (Z9:Addr) (Z3:Addr) (Z2:Addr) (Z5:Addr) (Z6:Addr) (Z4:Addr) (Z7:Addr) (Z0:Addr):Prop where
 ZP:∀ P w base,(Gx.mk P w K mg base).aD Z0 "count_at" "Maker.count_at" uq ["self","size"]
 ZM:∀ P w base,(Gx.mk P w K mg base).aD Z4 "count_at" "Maker.count_at" GX ["self","size"]
 ZZ:∀ P w base,(Gx.mk P w K mg base).aD Z5 "count_at" "Maker.count_at" GZ ["self","size"]
 ZV:∀ P w base,(Gx.mk P w K mg base).aD Z2 "count_at" "Maker.count_at" G4 ["self","size"]
 ZN:∀ P w base,(Gx.mk P w K mg base).aD Z3 "count_at" "Maker.count_at" G5 ["self","size"]
 jd:∀ P w base,(Gx.mk P w K mg base).aD Z7 "count_at" "Maker.count_at" G7 ["self","size"]
 ZQ:∀ P w base,(Gx.mk P w K mg base).aD Z1 "count_at" "Maker.count_at" G6 ["self","size"]
 Bo:∀ P w base,(Gx.mk P w K mg base).Raw "least_distance" "least_distance" xO ["size"]
 qd:∀ P w base,(Gx.mk P w K mg base).aD Z0 "reckoned" "WholeMaker.reckoned" yJ ["self","size"]
 qe:∀ P w base,(Gx.mk P w K mg base).aD Z4 "reckoned" "TextMaker.reckoned" yM ["self","size"]
 Bp:∀ P w base,(Gx.mk P w K mg base).Raw "ways_of" "ways_of" xK ["blocks"]
 qg:∀ P w base,(Gx.mk P w K mg base).aD Z6 "blocks_at" "RowTable.blocks_at" yR ["self","place","left"]
 qj:∀ P w base,(Gx.mk P w K mg base).aD Z6 "add_size" "RowTable.add_size" yQ ["self","size"]
 mH:∀ P w base,(Gx.mk P w K mg base).aD Z6 "ways_at" "RowTable.ways_at" yP ["self","place","left"]
 ql:∀ P w base,(Gx.mk P w K mg base).aD Z5 "reckoned" "RowMaker.reckoned" yU ["self","size"]
 qm:∀ P w base,(Gx.mk P w K mg base).aD Z7 "reckoned" "UseMaker.reckoned" zy ["self","size"]
 qp:∀ P w base,(Gx.mk P w K mg base).aD Z1 "reckoned" "AlikeMaker.reckoned" zq ["self","size"]
 qt:∀ P w base,(Gx.mk P w K mg base).aD Z3 "blocks_at" "ManyMaker.blocks_at" zf ["self","left"]
 qu:∀ P w base,(Gx.mk P w K mg base).aD Z3 "reckoned" "ManyMaker.reckoned" zj ["self","size"]
 qw:∀ P w base,(Gx.mk P w K mg base).aD Z2 "blocks_at" "PickMaker.blocks_at" yX ["self","size"]
 qx:∀ P w base,(Gx.mk P w K mg base).aD Z2 "reckoned" "PickMaker.reckoned" yZ ["self","size"]
 Bq:∀ P w base,(Gx.mk P w K mg base).Raw "parts_of" "parts_of" xH ["shape"]
 Br:∀ P w base,(Gx.mk P w K mg base).jT "Maker" "__init__" "Maker.__init__" zE ["self"]
 Bt:∀ P w base,(Gx.mk P w K mg base).bB "WholeMaker" Z0 "WholeMaker.__init__" yI ["self","low","high"]
 Bu:∀ P w base,(Gx.mk P w K mg base).bB "TextMaker" Z4 "TextMaker.__init__" yL ["self","signs"]
 Bv:∀ P w base,(Gx.mk P w K mg base).bB "ManyMaker" Z3 "ManyMaker.__init__" zc ["self","part"]
 Bw:∀ P w base,(Gx.mk P w K mg base).bB "AlikeMaker" Z1 "AlikeMaker.__init__" zp ["self","part","times"]
 Bx:∀ P w base,(Gx.mk P w K mg base).bB "PickMaker" Z2 "PickMaker.__init__" yW ["self","marks","parts"]
 BJ:∀ P w base,(Gx.mk P w K mg base).bB "UseMaker" Z7 "UseMaker.__init__" zx ["self"]
 BK:∀ P w base,(Gx.mk P w K mg base).bB "RowTable" Z6 "RowTable.__init__" yO ["self","parts"]
 BL:∀ P w base,(Gx.mk P w K mg base).bB "RowMaker" Z5 "RowMaker.__init__" yS ["self","parts"]
 BP:∀ P w base,(Gx.mk P w K mg base).bB "Lister" Z9 "Lister.__init__" yD ["self","book"]
 BR:∀ P w base,(Gx.mk P w K mg base).Raw "shape_of" "shape_of" xJ ["book","name"]
 qy:∀ P w base,(Gx.mk P w K mg base).aD Z9 "new_maker" "Lister.new_maker" yG ["self","shape"]
 qz:∀ P w base,(Gx.mk P w K mg base).aD Z9 "add_use" "Lister.add_use" yF ["self","shape"]
 mJ:∀ P w base,(Gx.mk P w K mg base).aD Z9 "maker_of" "Lister.maker_of" yE ["self","shape"]
 BW:∀ P w base,(Gx.mk P w K mg base).Raw "maker_for" "maker_for" xP ["book","shape"]
 BX:∀ P w base,(Gx.mk P w K mg base).bB "Found" Zl "Found.__init__" zB ["self","place","choice","rest"]
 BZ:∀ P w base,(Gx.mk P w K mg base).Raw "found_in" "found_in" xM ["blocks","number"]
 ZR:∀ P w base,(Gx.mk P w K mg base).aD Z0 "value_at" "WholeMaker.value_at" yK ["self","size","number"]
 je:∀ P w base,(Gx.mk P w K mg base).aD Z7 "value_at" "UseMaker.value_at" zA ["self","size","number"]
 ZW:∀ P w base,(Gx.mk P w K mg base).aD Z2 "value_at" "PickMaker.value_at" za ["self","size","number"]
 jf:∀ P w base,(Gx.mk P w K mg base).aD Z5 "value_at" "RowMaker.value_at" yV ["self","size","number"]
 ZX:∀ P w base,(Gx.mk P w K mg base).aD Z4 "value_at" "TextMaker.value_at" yN ["self","size","number"]
 ZS:∀ P w base,(Gx.mk P w K mg base).aD Z1 "value_at" "AlikeMaker.value_at" zu ["self","size","number"]
 ZY:∀ P w base,(Gx.mk P w K mg base).aD Z3 "value_at" "ManyMaker.value_at" zm ["self","size","number"]
 Ca:∀ P w base,(Gx.mk P w K mg base).Raw "all_made" "all_made" xR ["maker","size"]
 Cd:∀ P w base,(Gx.mk P w K mg base).Raw "refuse_too_many" "refuse_too_many" xQ ["count","most"]
 Ce:∀ P w base,(Gx.mk P w K mg base).iK "all_values" "all_values" xT ["book","shape","size","most"] [.int 400]
 Cg:∀ P w base,(Gx.mk P w K mg base).Raw "_law_texts" "_law_texts" xW ["_law_signs","_law_size_here"]
 Ci:∀ P w base,(Gx.mk P w K mg base).Raw "_law_numbers" "_law_numbers" xX ["_law_low","_law_high","_law_size_here"]
 mK:∀ P w base,(Gx.mk P w K mg base).Raw "_law_rows" "_law_rows" xY ["_law_book","_law_parts","_law_size_here"]
 mL:∀ P w base,(Gx.mk P w K mg base).Raw "_law_lists" "_law_lists" xZ ["_law_book","_law_part","_law_size_here"]
 kE:∀ P w base,(Gx.mk P w K mg base).Raw "_law_all" "_law_all" yd ["_law_book","_law_shape_here","_law_size_here"]
 Cj:∀ P w base,(Gx.mk P w K mg base).Raw "_law_cell_at" "_law_cell_at" xU ["_law_script","_law_k"]
 Ck:∀ P w base,(Gx.mk P w K mg base).Raw "_law_name" "_law_name" xV ["_law_cell","_law_k"]
 Cm:∀ P w base,(Gx.mk P w K mg base).Raw "_law_leaf" "_law_leaf" yg ["_law_cell"]
 mO:∀ P w base,(Gx.mk P w K mg base).Raw "_law_shape" "_law_shape" yh ["_law_script","_law_deep","_law_at","_law_name_here"]
 Cp:∀ P w base,(Gx.mk P w K mg base).Raw "_law_size" "_law_size" yj ["_law_book","_law_shape_here","_law_want","_law_most"]
 kJ:∀ P w base,(Gx.mk P w K mg base).Raw "_law_rows_same" "_law_rows_same" yt ["_law_one","_law_other"]
 jB:∀ P w base,(Gx.mk P w K mg base).Raw "_law_same" "_law_same" yr ["_law_one","_law_other"]
 jg:∀ P w base,(Gx.mk P w K mg base).Raw "_law_lists_in" "_law_lists_in" yu ["_law_value"]
 Cq:∀ P w base,(Gx.mk P w K mg base).Raw "_law_own" "_law_own" yC ["_law_value"]
 Za:Cls K Z1
 Zx:Yf K Z1 "counts"
 Zy:Yf K Z1 "part"
 Zk:Yf K Z1 "times"
 ZL:Cls K Zl
 ZG:Yf K Zl "place"
 ZI:Yf K Zl "choice"
 ZT:Yf K Zl "rest"
 ZH:Cls K Z9
 ZJ:Yf K Z9 "book"
 Zu:Yf K Z9 "makers"
 Zc:Cls K Z3
 Zq:Yf K Z3 "counts"
 Zt:Yf K Z3 "part"
 Zb:Cls K Z2
 Zp:Yf K Z2 "counts"
 Zs:Yf K Z2 "marks"
 Zm:Yf K Z2 "parts"
 Zf:Cls K Z5
 ZD:Yf K Z5 "counts"
 ZF:Yf K Z5 "parts"
 ZC:Yf K Z5 "table"
 Zi:Cls K Z6
 Zo:Yf K Z6 "parts"
 Zh:Yf K Z6 "ways"
 Zd:Cls K Z4
 ZA:Yf K Z4 "counts"
 Zr:Yf K Z4 "signs"
 Ze:Cls K Z7
 Zv:Yf K Z7 "counts"
 Zn:Yf K Z7 "named"
 Z8:Cls K Z0
 Zg:Yf K Z0 "counts"
 ZE:Yf K Z0 "low"
 Zz:Yf K Z0 "span"
 pF:∀ P w base,(Gx.mk P w K mg base).m7 "OF_ONE_PART" ([.str "many",.str "rising",.str "unlike"])
 cj:mg "bool"=none
 fj:mg "dict"=none
 mj:mg "enumerate"=none
 gC:mg "int"=none
 Zw:mg "isinstance"=none
 au:mg "len"=none
 aP:mg "list"=none
 gA:mg "max"=none
 cu:mg "min"=none
 Zj:mg "range"=none
 iQ:mg "sum"=none
 cg:mg "tuple"=none
theorem Ye8 {K:Ι} {mg:Str->Option Α} {Z1 Zl Z9 Z3 Z2 Z5 Z6 Z4 Z7 Z0:Addr}  (t:Top K mg Z1 Zl Z9 Z3 Z2 Z5 Z6 Z4 Z7 Z0) (P:ζ) (w:ν) (base:Heap) :
  V2 (Gx.mk P w K mg base) 120 ["_law_script","_law_name_here","_law_book","_law_shape_here","_law_size_here","_law_due","_law_most","_law_handed","_law_found"] "law" uo (U8 K):=by
 have uW:=Z5l (t.Bo P w base);have mQ:=YcT (t.Bp P w base) t.iQ;have Z3V:∀ i:Nat,((Gx.mk P w K mg base).Me (1+i+1) Z0 "count_at" ["self","size"] (ZO (Cs.mk Z0 Z4 Z5 Z6 Z2 Z3 Z1 Z7) 0 (i+1)))/\((Gx.mk P w K mg base).Me (1+i+1) Z4 "count_at" ["self","size"] (ZO (Cs.mk Z0 Z4 Z5 Z6 Z2 Z3 Z1 Z7) 1 (i+1)))/\((Gx.mk P w K mg base).Me (1+i+1) Z5 "count_at" ["self","size"] (ZO (Cs.mk Z0 Z4 Z5 Z6 Z2 Z3 Z1 Z7) 2 (i+1)))/\((Gx.mk P w K mg base).Me (1+i+1) Z2 "count_at" ["self","size"] (ZO (Cs.mk Z0 Z4 Z5 Z6 Z2 Z3 Z1 Z7) 3 (i+1)))/\((Gx.mk P w K mg base).Me (1+i+1) Z3 "count_at" ["self","size"] (ZO (Cs.mk Z0 Z4 Z5 Z6 Z2 Z3 Z1 Z7) 4 (i+1)))/\((Gx.mk P w K mg base).Me (1+i+1) Z1 "count_at" ["self","size"] (ZO (Cs.mk Z0 Z4 Z5 Z6 Z2 Z3 Z1 Z7) 6 (i+1)))/\((Gx.mk P w K mg base).Me (1+i+1) Z7 "count_at" ["self","size"] (ZO (Cs.mk Z0 Z4 Z5 Z6 Z2 Z3 Z1 Z7) 5 (i+1)))/\((Gx.mk P w K mg base).Me (1+i+1) Z6 "blocks_at" ["self","place","left"] (pA (Cs.mk Z0 Z4 Z5 Z6 Z2 Z3 Z1 Z7) (i+1)))/\((Gx.mk P w K mg base).Me (1+i+1) Z6 "add_size" ["self","size"] (iR (Cs.mk Z0 Z4 Z5 Z6 Z2 Z3 Z1 Z7) (i+1)))/\((Gx.mk P w K mg base).Me (1+i+1) Z6 "ways_at" ["self","place","left"] (eX (Cs.mk Z0 Z4 Z5 Z6 Z2 Z3 Z1 Z7) (i+1)))/\((Gx.mk P w K mg base).Me (1+i+1) Z2 "blocks_at" ["self","size"] (pC (Cs.mk Z0 Z4 Z5 Z6 Z2 Z3 Z1 Z7) (i+1)))/\((Gx.mk P w K mg base).Me (1+i+1) Z3 "blocks_at" ["self","left"] (pD (Cs.mk Z0 Z4 Z5 Z6 Z2 Z3 Z1 Z7) (i+1)))/\((Gx.mk P w K mg base).Me (1+i+1) Z0 "reckoned" ["self","size"] (aO (Cs.mk Z0 Z4 Z5 Z6 Z2 Z3 Z1 Z7) 0 (i+1)))/\((Gx.mk P w K mg base).Me (1+i+1) Z4 "reckoned" ["self","size"] (aO (Cs.mk Z0 Z4 Z5 Z6 Z2 Z3 Z1 Z7) 1 (i+1)))/\((Gx.mk P w K mg base).Me (1+i+1) Z5 "reckoned" ["self","size"] (aO (Cs.mk Z0 Z4 Z5 Z6 Z2 Z3 Z1 Z7) 2 (i+1)))/\((Gx.mk P w K mg base).Me (1+i+1) Z3 "reckoned" ["self","size"] (aO (Cs.mk Z0 Z4 Z5 Z6 Z2 Z3 Z1 Z7) 4 (i+1)))/\((Gx.mk P w K mg base).Me (1+i+1) Z1 "reckoned" ["self","size"] (aO (Cs.mk Z0 Z4 Z5 Z6 Z2 Z3 Z1 Z7) 6 (i+1)))/\((Gx.mk P w K mg base).Me (1+i+1) Z7 "reckoned" ["self","size"] (aO (Cs.mk Z0 Z4 Z5 Z6 Z2 Z3 Z1 Z7) 5 (i+1)))/\((Gx.mk P w K mg base).Me (1+i+1) Z2 "reckoned" ["self","size"] (aO (Cs.mk Z0 Z4 Z5 Z6 Z2 Z3 Z1 Z7) 3 (i+1))):=by
  intro i
  induction i with
  | zero=>exact ⟨Hr (m:=0) (k:=1) (Z1:=Z1) (Z3:=Z3) (Z2:=Z2) (Z5:=Z5) (Z6:=Z6) (Z4:=Z4) (Z7:=Z7) (Z0:=Z0) (t.ZP P w base) ((t.qd P w base).none (λ_ _ _ _ h=>Ws h)) t.au t.Z8 t.Zg t.ZE t.Zz,Hs (m:=0) (k:=1) (Z1:=Z1) (Z3:=Z3) (Z2:=Z2) (Z5:=Z5) (Z6:=Z6) (Z4:=Z4) (Z7:=Z7) (Z0:=Z0) (t.ZM P w base) ((t.qe P w base).none (λ_ _ _ _ h=>Ws h)) t.au t.Zd t.ZA t.Zr,Ht (m:=0) (k:=1) (Z1:=Z1) (Z3:=Z3) (Z2:=Z2) (Z5:=Z5) (Z6:=Z6) (Z4:=Z4) (Z7:=Z7) (Z0:=Z0) (t.ZZ P w base) ((t.ql P w base).none (λ_ _ _ _ h=>Ws h)) t.au t.Zf t.ZD t.ZF t.ZC,Hu (m:=0) (k:=1) (Z1:=Z1) (Z3:=Z3) (Z2:=Z2) (Z5:=Z5) (Z6:=Z6) (Z4:=Z4) (Z7:=Z7) (Z0:=Z0) (t.ZV P w base) ((t.qx P w base).none (λ_ _ _ _ h=>Ws h)) t.au t.Zb t.Zp t.Zs t.Zm,Hv (m:=0) (k:=1) (Z1:=Z1) (Z3:=Z3) (Z2:=Z2) (Z5:=Z5) (Z6:=Z6) (Z4:=Z4) (Z7:=Z7) (Z0:=Z0) (t.ZN P w base) ((t.qu P w base).none (λ_ _ _ _ h=>Ws h)) t.au t.Zc t.Zq t.Zt,Hx (m:=0) (k:=1) (Z1:=Z1) (Z3:=Z3) (Z2:=Z2) (Z5:=Z5) (Z6:=Z6) (Z4:=Z4) (Z7:=Z7) (Z0:=Z0) (t.ZQ P w base) ((t.qp P w base).none (λ_ _ _ _ h=>Ws h)) t.au t.Za t.Zx t.Zy t.Zk,Hw (m:=0) (k:=1) (Z1:=Z1) (Z3:=Z3) (Z2:=Z2) (Z5:=Z5) (Z6:=Z6) (Z4:=Z4) (Z7:=Z7) (Z0:=Z0) (t.jd P w base) ((t.qm P w base).none (λ_ _ _ _ h=>Ws h)) t.au t.Ze t.Zv t.Zn,HJ (m:=0) (k:=1) (Z1:=Z1) (Z3:=Z3) (Z2:=Z2) (Z5:=Z5) (Z6:=Z6) (Z4:=Z4) (Z7:=Z7) (Z0:=Z0) (t.qg P w base) ((t.mH P w base).none (λ_ _ _ _ h=>HD h)) ((Yb ((t.ZP P w base).none (λ_ _ _ _ h=>ZB h)) t.Z8 (Yb ((t.ZM P w base).none (λ_ _ _ _ h=>ZB h)) t.Zd (Yb ((t.ZZ P w base).none (λ_ _ _ _ h=>ZB h)) t.Zf (Yb ((t.ZV P w base).none (λ_ _ _ _ h=>ZB h)) t.Zb (Yb ((t.ZN P w base).none (λ_ _ _ _ h=>ZB h)) t.Zc (Yb ((t.ZQ P w base).none (λ_ _ _ _ h=>ZB h)) t.Za (Yb ((t.jd P w base).none (λ_ _ _ _ h=>ZB h)) t.Ze YO)))))))) t.Zj t.Zi t.Zo t.Zh,HS (m:=0) (k:=1) (Z1:=Z1) (Z3:=Z3) (Z2:=Z2) (Z5:=Z5) (Z6:=Z6) (Z4:=Z4) (Z7:=Z7) (Z0:=Z0) (t.qj P w base) (mQ.mono (by omega)) ((t.qg P w base).none (λ_ _ _ _ h=>YcU h)) t.au t.Zj t.Zi t.Zo t.Zh,HY (m:=0) (k:=1) (Z1:=Z1) (Z3:=Z3) (Z2:=Z2) (Z5:=Z5) (Z6:=Z6) (Z4:=Z4) (Z7:=Z7) (Z0:=Z0) (t.mH P w base) ((t.qj P w base).none (λ_ _ _ _ h=>YgP h)) t.au t.Zi t.Zo t.Zh,Ir (m:=0) (k:=1) (Z1:=Z1) (Z3:=Z3) (Z2:=Z2) (Z5:=Z5) (Z6:=Z6) (Z4:=Z4) (Z7:=Z7) (Z0:=Z0) (t.qw P w base) ((Yb ((t.ZP P w base).none (λ_ _ _ _ h=>ZB h)) t.Z8 (Yb ((t.ZM P w base).none (λ_ _ _ _ h=>ZB h)) t.Zd (Yb ((t.ZZ P w base).none (λ_ _ _ _ h=>ZB h)) t.Zf (Yb ((t.ZV P w base).none (λ_ _ _ _ h=>ZB h)) t.Zb (Yb ((t.ZN P w base).none (λ_ _ _ _ h=>ZB h)) t.Zc (Yb ((t.ZQ P w base).none (λ_ _ _ _ h=>ZB h)) t.Za (Yb ((t.jd P w base).none (λ_ _ _ _ h=>ZB h)) t.Ze YO)))))))) t.Zb t.Zp t.Zs t.Zm,Il (m:=0) (k:=1) (Z1:=Z1) (Z3:=Z3) (Z2:=Z2) (Z5:=Z5) (Z6:=Z6) (Z4:=Z4) (Z7:=Z7) (Z0:=Z0) (t.qt P w base) ((t.ZN P w base).none (λ_ _ _ _ h=>ZB h)) ((Yb ((t.ZP P w base).none (λ_ _ _ _ h=>ZB h)) t.Z8 (Yb ((t.ZM P w base).none (λ_ _ _ _ h=>ZB h)) t.Zd (Yb ((t.ZZ P w base).none (λ_ _ _ _ h=>ZB h)) t.Zf (Yb ((t.ZV P w base).none (λ_ _ _ _ h=>ZB h)) t.Zb (Yb ((t.ZN P w base).none (λ_ _ _ _ h=>ZB h)) t.Zc (Yb ((t.ZQ P w base).none (λ_ _ _ _ h=>ZB h)) t.Za (Yb ((t.jd P w base).none (λ_ _ _ _ h=>ZB h)) t.Ze YO)))))))) t.Zj t.Zc t.Zq t.Zt,Hy (m:=0) (k:=1) (Z1:=Z1) (Z3:=Z3) (Z2:=Z2) (Z5:=Z5) (Z6:=Z6) (Z4:=Z4) (Z7:=Z7) (Z0:=Z0) (t.qd P w base) (uW.mono (by omega)) t.gA t.cu t.Z8 t.Zg t.ZE t.Zz,HB (m:=0) (k:=1) (Z1:=Z1) (Z3:=Z3) (Z2:=Z2) (Z5:=Z5) (Z6:=Z6) (Z4:=Z4) (Z7:=Z7) (Z0:=Z0) (t.qe P w base) ((t.ZM P w base).none (λ_ _ _ _ h=>ZB h)) t.au t.Zd t.ZA t.Zr,Ib (m:=0) (k:=1) (Z1:=Z1) (Z3:=Z3) (Z2:=Z2) (Z5:=Z5) (Z6:=Z6) (Z4:=Z4) (Z7:=Z7) (Z0:=Z0) (t.ql P w base) ((t.mH P w base).none (λ_ _ _ _ h=>HD h)) t.Zf t.ZD t.ZF t.ZC t.Zi t.Zo t.Zh,Ip (m:=0) (k:=1) (Z1:=Z1) (Z3:=Z3) (Z2:=Z2) (Z5:=Z5) (Z6:=Z6) (Z4:=Z4) (Z7:=Z7) (Z0:=Z0) (t.qu P w base) (mQ.mono (by omega)) ((t.qt P w base).none (λ_ _ _ _ h=>YcX h)) t.Zc t.Zq t.Zt,Ik (m:=0) (k:=1) (Z1:=Z1) (Z3:=Z3) (Z2:=Z2) (Z5:=Z5) (Z6:=Z6) (Z4:=Z4) (Z7:=Z7) (Z0:=Z0) (t.qp P w base) ((Yb ((t.ZP P w base).none (λ_ _ _ _ h=>ZB h)) t.Z8 (Yb ((t.ZM P w base).none (λ_ _ _ _ h=>ZB h)) t.Zd (Yb ((t.ZZ P w base).none (λ_ _ _ _ h=>ZB h)) t.Zf (Yb ((t.ZV P w base).none (λ_ _ _ _ h=>ZB h)) t.Zb (Yb ((t.ZN P w base).none (λ_ _ _ _ h=>ZB h)) t.Zc (Yb ((t.ZQ P w base).none (λ_ _ _ _ h=>ZB h)) t.Za (Yb ((t.jd P w base).none (λ_ _ _ _ h=>ZB h)) t.Ze YO)))))))) t.Za t.Zx t.Zy t.Zk,Ij (m:=0) (k:=1) (Z1:=Z1) (Z3:=Z3) (Z2:=Z2) (Z5:=Z5) (Z6:=Z6) (Z4:=Z4) (Z7:=Z7) (Z0:=Z0) (t.qm P w base) ((Yb ((t.ZP P w base).none (λ_ _ _ _ h=>ZB h)) t.Z8 (Yb ((t.ZM P w base).none (λ_ _ _ _ h=>ZB h)) t.Zd (Yb ((t.ZZ P w base).none (λ_ _ _ _ h=>ZB h)) t.Zf (Yb ((t.ZV P w base).none (λ_ _ _ _ h=>ZB h)) t.Zb (Yb ((t.ZN P w base).none (λ_ _ _ _ h=>ZB h)) t.Zc (Yb ((t.ZQ P w base).none (λ_ _ _ _ h=>ZB h)) t.Za (Yb ((t.jd P w base).none (λ_ _ _ _ h=>ZB h)) t.Ze YO)))))))) t.Ze t.Zv t.Zn,Iu (m:=0) (k:=1) (Z1:=Z1) (Z3:=Z3) (Z2:=Z2) (Z5:=Z5) (Z6:=Z6) (Z4:=Z4) (Z7:=Z7) (Z0:=Z0) (t.qx P w base) (mQ.mono (by omega)) ((t.qw P w base).none (λ_ _ _ _ h=>YcW h)) t.Zb t.Zp t.Zs t.Zm⟩
  | succ i ih =>
   obtain ⟨qC,mR,qD,qF,mU,qG,qH,Z4B,Z4U,Ly,Z3W,Z3X,Z3Y,Z4C,Z4V,Z4D,Z3Z,Z4W,Z4E⟩:=ih;exact ⟨Hr (m:=i+1) (k:=1+i+1) (Z1:=Z1) (Z3:=Z3) (Z2:=Z2) (Z5:=Z5) (Z6:=Z6) (Z4:=Z4) (Z7:=Z7) (Z0:=Z0) (t.ZP P w base) Z3Y t.au t.Z8 t.Zg t.ZE t.Zz,Hs (m:=i+1) (k:=1+i+1) (Z1:=Z1) (Z3:=Z3) (Z2:=Z2) (Z5:=Z5) (Z6:=Z6) (Z4:=Z4) (Z7:=Z7) (Z0:=Z0) (t.ZM P w base) Z4C t.au t.Zd t.ZA t.Zr,Ht (m:=i+1) (k:=1+i+1) (Z1:=Z1) (Z3:=Z3) (Z2:=Z2) (Z5:=Z5) (Z6:=Z6) (Z4:=Z4) (Z7:=Z7) (Z0:=Z0) (t.ZZ P w base) Z4V t.au t.Zf t.ZD t.ZF t.ZC,Hu (m:=i+1) (k:=1+i+1) (Z1:=Z1) (Z3:=Z3) (Z2:=Z2) (Z5:=Z5) (Z6:=Z6) (Z4:=Z4) (Z7:=Z7) (Z0:=Z0) (t.ZV P w base) Z4E t.au t.Zb t.Zp t.Zs t.Zm,Hv (m:=i+1) (k:=1+i+1) (Z1:=Z1) (Z3:=Z3) (Z2:=Z2) (Z5:=Z5) (Z6:=Z6) (Z4:=Z4) (Z7:=Z7) (Z0:=Z0) (t.ZN P w base) Z4D t.au t.Zc t.Zq t.Zt,Hx (m:=i+1) (k:=1+i+1) (Z1:=Z1) (Z3:=Z3) (Z2:=Z2) (Z5:=Z5) (Z6:=Z6) (Z4:=Z4) (Z7:=Z7) (Z0:=Z0) (t.ZQ P w base) Z3Z t.au t.Za t.Zx t.Zy t.Zk,Hw (m:=i+1) (k:=1+i+1) (Z1:=Z1) (Z3:=Z3) (Z2:=Z2) (Z5:=Z5) (Z6:=Z6) (Z4:=Z4) (Z7:=Z7) (Z0:=Z0) (t.jd P w base) Z4W t.au t.Ze t.Zv t.Zn,HJ (m:=i+1) (k:=1+i+1) (Z1:=Z1) (Z3:=Z3) (Z2:=Z2) (Z5:=Z5) (Z6:=Z6) (Z4:=Z4) (Z7:=Z7) (Z0:=Z0) (t.qg P w base) Ly ((Yb qC t.Z8 (Yb mR t.Zd (Yb qD t.Zf (Yb qF t.Zb (Yb mU t.Zc (Yb qG t.Za (Yb qH t.Ze YO)))))))) t.Zj t.Zi t.Zo t.Zh,HS (m:=i+1) (k:=1+i+1) (Z1:=Z1) (Z3:=Z3) (Z2:=Z2) (Z5:=Z5) (Z6:=Z6) (Z4:=Z4) (Z7:=Z7) (Z0:=Z0) (t.qj P w base) (mQ.mono (by omega)) Z4B t.au t.Zj t.Zi t.Zo t.Zh,HY (m:=i+1) (k:=1+i+1) (Z1:=Z1) (Z3:=Z3) (Z2:=Z2) (Z5:=Z5) (Z6:=Z6) (Z4:=Z4) (Z7:=Z7) (Z0:=Z0) (t.mH P w base) Z4U t.au t.Zi t.Zo t.Zh,Ir (m:=i+1) (k:=1+i+1) (Z1:=Z1) (Z3:=Z3) (Z2:=Z2) (Z5:=Z5) (Z6:=Z6) (Z4:=Z4) (Z7:=Z7) (Z0:=Z0) (t.qw P w base) ((Yb qC t.Z8 (Yb mR t.Zd (Yb qD t.Zf (Yb qF t.Zb (Yb mU t.Zc (Yb qG t.Za (Yb qH t.Ze YO)))))))) t.Zb t.Zp t.Zs t.Zm,Il (m:=i+1) (k:=1+i+1) (Z1:=Z1) (Z3:=Z3) (Z2:=Z2) (Z5:=Z5) (Z6:=Z6) (Z4:=Z4) (Z7:=Z7) (Z0:=Z0) (t.qt P w base) mU ((Yb qC t.Z8 (Yb mR t.Zd (Yb qD t.Zf (Yb qF t.Zb (Yb mU t.Zc (Yb qG t.Za (Yb qH t.Ze YO)))))))) t.Zj t.Zc t.Zq t.Zt,Hy (m:=i+1) (k:=1+i+1) (Z1:=Z1) (Z3:=Z3) (Z2:=Z2) (Z5:=Z5) (Z6:=Z6) (Z4:=Z4) (Z7:=Z7) (Z0:=Z0) (t.qd P w base) (uW.mono (by omega)) t.gA t.cu t.Z8 t.Zg t.ZE t.Zz,HB (m:=i+1) (k:=1+i+1) (Z1:=Z1) (Z3:=Z3) (Z2:=Z2) (Z5:=Z5) (Z6:=Z6) (Z4:=Z4) (Z7:=Z7) (Z0:=Z0) (t.qe P w base) mR t.au t.Zd t.ZA t.Zr,Ib (m:=i+1) (k:=1+i+1) (Z1:=Z1) (Z3:=Z3) (Z2:=Z2) (Z5:=Z5) (Z6:=Z6) (Z4:=Z4) (Z7:=Z7) (Z0:=Z0) (t.ql P w base) Ly t.Zf t.ZD t.ZF t.ZC t.Zi t.Zo t.Zh,Ip (m:=i+1) (k:=1+i+1) (Z1:=Z1) (Z3:=Z3) (Z2:=Z2) (Z5:=Z5) (Z6:=Z6) (Z4:=Z4) (Z7:=Z7) (Z0:=Z0) (t.qu P w base) (mQ.mono (by omega)) Z3X t.Zc t.Zq t.Zt,Ik (m:=i+1) (k:=1+i+1) (Z1:=Z1) (Z3:=Z3) (Z2:=Z2) (Z5:=Z5) (Z6:=Z6) (Z4:=Z4) (Z7:=Z7) (Z0:=Z0) (t.qp P w base) ((Yb qC t.Z8 (Yb mR t.Zd (Yb qD t.Zf (Yb qF t.Zb (Yb mU t.Zc (Yb qG t.Za (Yb qH t.Ze YO)))))))) t.Za t.Zx t.Zy t.Zk,Ij (m:=i+1) (k:=1+i+1) (Z1:=Z1) (Z3:=Z3) (Z2:=Z2) (Z5:=Z5) (Z6:=Z6) (Z4:=Z4) (Z7:=Z7) (Z0:=Z0) (t.qm P w base) ((Yb qC t.Z8 (Yb mR t.Zd (Yb qD t.Zf (Yb qF t.Zb (Yb mU t.Zc (Yb qG t.Za (Yb qH t.Ze YO)))))))) t.Ze t.Zv t.Zn,Iu (m:=i+1) (k:=1+i+1) (Z1:=Z1) (Z3:=Z3) (Z2:=Z2) (Z5:=Z5) (Z6:=Z6) (Z4:=Z4) (Z7:=Z7) (Z0:=Z0) (t.qx P w base) (mQ.mono (by omega)) Z3W t.Zb t.Zp t.Zs t.Zm⟩
 obtain ⟨Lz,LK,Mf,Mg,Mh,Mi,Mj,Ml,oA,qI,Mp,Mq,mV,nP,oE,nQ,mW,oF,nR⟩:=Z3V 90;have Mr:=Ybl (t.Bq P w base) t.aP (t.pF P w base);have kO:=Z5m (Z1:=Z1) (Z3:=Z3) (Z2:=Z2) (Z5:=Z5) (Z6:=Z6) (Z4:=Z4) (Z7:=Z7) (Z0:=Z0) (t.Br P w base) t.Za t.Zx t.Zy t.Zk t.Zc t.Zq t.Zt t.Zb t.Zp t.Zs t.Zm t.Zf t.ZD t.ZF t.ZC t.Zd t.ZA t.Zr t.Ze t.Zv t.Zn t.Z8 t.Zg t.ZE t.Zz;have Ms:=Z3D (k:=1) (Z1:=Z1) (Z3:=Z3) (Z2:=Z2) (Z5:=Z5) (Z6:=Z6) (Z4:=Z4) (Z7:=Z7) (Z0:=Z0) (t.Bt P w base) (kO.mono (by decide)) t.Z8 t.Zg t.ZE t.Zz;have Mt:=Z3Q (k:=1) (Z1:=Z1) (Z3:=Z3) (Z2:=Z2) (Z5:=Z5) (Z6:=Z6) (Z4:=Z4) (Z7:=Z7) (Z0:=Z0) (t.Bu P w base) (kO.mono (by decide)) t.Zd t.ZA t.Zr;have Mu:=Z3R (k:=1) (Z1:=Z1) (Z3:=Z3) (Z2:=Z2) (Z5:=Z5) (Z6:=Z6) (Z4:=Z4) (Z7:=Z7) (Z0:=Z0) (t.Bv P w base) (kO.mono (by decide)) t.Zc t.Zq t.Zt;have Mv:=Z3E (k:=1) (Z1:=Z1) (Z3:=Z3) (Z2:=Z2) (Z5:=Z5) (Z6:=Z6) (Z4:=Z4) (Z7:=Z7) (Z0:=Z0) (t.Bw P w base) (kO.mono (by decide)) t.Za t.Zx t.Zy t.Zk;have Mw:=Z3S (k:=1) (Z1:=Z1) (Z3:=Z3) (Z2:=Z2) (Z5:=Z5) (Z6:=Z6) (Z4:=Z4) (Z7:=Z7) (Z0:=Z0) (t.Bx P w base) (kO.mono (by decide)) t.Zb t.Zp t.Zs t.Zm;have Mx:=Z4m (k:=1) (Z1:=Z1) (Z3:=Z3) (Z2:=Z2) (Z5:=Z5) (Z6:=Z6) (Z4:=Z4) (Z7:=Z7) (Z0:=Z0) (t.BJ P w base) (kO.mono (by decide)) t.Ze t.Zv t.Zn;have Z4X:=Z4n (Z1:=Z1) (Z3:=Z3) (Z2:=Z2) (Z5:=Z5) (Z6:=Z6) (Z4:=Z4) (Z7:=Z7) (Z0:=Z0) (t.BK P w base) t.au t.Zj t.Zi t.Zo t.Zh;have Mz:=Z4o (k:=2) (Z1:=Z1) (Z3:=Z3) (Z2:=Z2) (Z5:=Z5) (Z6:=Z6) (Z4:=Z4) (Z7:=Z7) (Z0:=Z0) (t.BL P w base) Z4X (by decide) (kO.mono (by decide)) t.Zf t.ZD t.ZF t.ZC;have Z5q:=Z56 (Z9:=Z9) (t.BP P w base) t.ZH t.ZJ t.Zu;have MF:=Ybm (t.BR P w base);have Z5f:∀ i:Nat,((Gx.mk P w K mg base).Me (4+i+1) Z9 "new_maker" ["self","shape"] (iV (Gx.mk P w K mg base).P (Gx.mk P w K mg base).w (Gx.mk P w K mg base).K (Cs.mk Z0 Z4 Z5 Z6 Z2 Z3 Z1 Z7) Z9 (i+1)))/\((Gx.mk P w K mg base).Me (4+i+1) Z9 "add_use" ["self","shape"] (uF (Gx.mk P w K mg base).P (Gx.mk P w K mg base).w (Gx.mk P w K mg base).K (Cs.mk Z0 Z4 Z5 Z6 Z2 Z3 Z1 Z7) Z9 (i+1)))/\((Gx.mk P w K mg base).Me (4+i+1) Z9 "maker_of" ["self","shape"] (jY (Gx.mk P w K mg base).P (Gx.mk P w K mg base).w (Gx.mk P w K mg base).K (Cs.mk Z0 Z4 Z5 Z6 Z2 Z3 Z1 Z7) Z9 (i+1))):=by
  intro i
  induction i with
  | zero=>exact ⟨JG (m:=0) (k:=4) (Z1:=Z1) (Z9:=Z9) (Z3:=Z3) (Z2:=Z2) (Z5:=Z5) (Z6:=Z6) (Z4:=Z4) (Z7:=Z7) (Z0:=Z0) (t.qy P w base) (Mr.mono (by omega)) ((t.mJ P w base).none (λ_ _ _ _ h=>JC h)) Ms (by omega) Mt (by omega) Mz (by omega) Mw (by omega) Mu (by omega) Mv (by omega) t.ZH t.ZJ t.Zu,JN (m:=0) (k:=4) (Z1:=Z1) (Z9:=Z9) (Z3:=Z3) (Z2:=Z2) (Z5:=Z5) (Z6:=Z6) (Z4:=Z4) (Z7:=Z7) (Z0:=Z0) (t.qz P w base) (MF.mono (by omega)) ((t.mJ P w base).none (λ_ _ _ _ h=>JC h)) Mx (by omega) t.ZH t.ZJ t.Zu t.Ze t.Zv t.Zn,JT (m:=0) (k:=4) (Z1:=Z1) (Z9:=Z9) (Z3:=Z3) (Z2:=Z2) (Z5:=Z5) (Z6:=Z6) (Z4:=Z4) (Z7:=Z7) (Z0:=Z0) (t.mJ P w base) ((t.qz P w base).none (λ_ _ _ _ h=>Yc1 h)) ((t.qy P w base).none (λ_ _ _ _ h=>YgS h)) t.ZH t.ZJ t.Zu⟩
  | succ i ih =>
   obtain ⟨Z5g,Z5K,MJ⟩:=ih;exact ⟨JG (m:=i+1) (k:=4+i+1) (Z1:=Z1) (Z9:=Z9) (Z3:=Z3) (Z2:=Z2) (Z5:=Z5) (Z6:=Z6) (Z4:=Z4) (Z7:=Z7) (Z0:=Z0) (t.qy P w base) (Mr.mono (by omega)) MJ Ms (by omega) Mt (by omega) Mz (by omega) Mw (by omega) Mu (by omega) Mv (by omega) t.ZH t.ZJ t.Zu,JN (m:=i+1) (k:=4+i+1) (Z1:=Z1) (Z9:=Z9) (Z3:=Z3) (Z2:=Z2) (Z5:=Z5) (Z6:=Z6) (Z4:=Z4) (Z7:=Z7) (Z0:=Z0) (t.qz P w base) (MF.mono (by omega)) MJ Mx (by omega) t.ZH t.ZJ t.Zu t.Ze t.Zv t.Zn,JT (m:=i+1) (k:=4+i+1) (Z1:=Z1) (Z9:=Z9) (Z3:=Z3) (Z2:=Z2) (Z5:=Z5) (Z6:=Z6) (Z4:=Z4) (Z7:=Z7) (Z0:=Z0) (t.mJ P w base) Z5K Z5g t.ZH t.ZJ t.Zu⟩
 obtain ⟨qJ,sH,Z5r⟩:=Z5f 59;have lC:=YaZ (k:=64) (Z1:=Z1) (Z9:=Z9) (Z3:=Z3) (Z2:=Z2) (Z5:=Z5) (Z6:=Z6) (Z4:=Z4) (Z7:=Z7) (Z0:=Z0) (t.BW P w base) Z5q (by decide) (Z5r.mono (by decide)) t.ZH t.ZJ t.Zu;have Z5L:=Z5o (Zl:=Zl) (t.BX P w base) t.ZL t.ZG t.ZI t.ZT;have mX:=Ybo (k:=2) (Zl:=Zl) (t.BZ P w base) Z5L (by decide);have Z4F:∀ i:Nat,((Gx.mk P w K mg base).Me (92+i+1) Z0 "value_at" ["self","size","number"] (aW (Cs.mk Z0 Z4 Z5 Z6 Z2 Z3 Z1 Z7) 0 (i+1)))/\((Gx.mk P w K mg base).Me (92+i+1) Z4 "value_at" ["self","size","number"] (aW (Cs.mk Z0 Z4 Z5 Z6 Z2 Z3 Z1 Z7) 1 (i+1)))/\((Gx.mk P w K mg base).Me (92+i+1) Z5 "value_at" ["self","size","number"] (aW (Cs.mk Z0 Z4 Z5 Z6 Z2 Z3 Z1 Z7) 2 (i+1)))/\((Gx.mk P w K mg base).Me (92+i+1) Z2 "value_at" ["self","size","number"] (aW (Cs.mk Z0 Z4 Z5 Z6 Z2 Z3 Z1 Z7) 3 (i+1)))/\((Gx.mk P w K mg base).Me (92+i+1) Z3 "value_at" ["self","size","number"] (aW (Cs.mk Z0 Z4 Z5 Z6 Z2 Z3 Z1 Z7) 4 (i+1)))/\((Gx.mk P w K mg base).Me (92+i+1) Z1 "value_at" ["self","size","number"] (aW (Cs.mk Z0 Z4 Z5 Z6 Z2 Z3 Z1 Z7) 6 (i+1)))/\((Gx.mk P w K mg base).Me (92+i+1) Z7 "value_at" ["self","size","number"] (aW (Cs.mk Z0 Z4 Z5 Z6 Z2 Z3 Z1 Z7) 5 (i+1))):=by
  intro i
  induction i with
  | zero=>exact ⟨J3 (m:=0) (k:=92) (Z1:=Z1) (Z3:=Z3) (Z2:=Z2) (Z5:=Z5) (Z6:=Z6) (Z4:=Z4) (Z7:=Z7) (Z0:=Z0) (t.ZR P w base) (uW.mono (by omega)) t.Z8 t.Zg t.ZE t.Zz,((Kl (m:=0) (Z1:=Z1) (Z3:=Z3) (Z2:=Z2) (Z5:=Z5) (Z6:=Z6) (Z4:=Z4) (Z7:=Z7) (Z0:=Z0) (t.ZX P w base) t.au t.Zj t.Zd t.ZA t.Zr).mono (by omega)),Ka (m:=0) (k:=92) (Z1:=Z1) (Zl:=Zl) (Z3:=Z3) (Z2:=Z2) (Z5:=Z5) (Z6:=Z6) (Z4:=Z4) (Z7:=Z7) (Z0:=Z0) (t.jf P w base) (mX.mono (by omega)) (Ml.mono (by omega)) ((Yb ((t.ZR P w base).none (λ_ _ _ _ h=>YE h)) t.Z8 (Yb ((t.ZX P w base).none (λ_ _ _ _ h=>YE h)) t.Zd (Yb ((t.jf P w base).none (λ_ _ _ _ h=>YE h)) t.Zf (Yb ((t.ZW P w base).none (λ_ _ _ _ h=>YE h)) t.Zb (Yb ((t.ZY P w base).none (λ_ _ _ _ h=>YE h)) t.Zc (Yb ((t.ZS P w base).none (λ_ _ _ _ h=>YE h)) t.Za (Yb ((t.je P w base).none (λ_ _ _ _ h=>YE h)) t.Ze YO)))))))) t.mj t.cg t.ZL t.ZG t.ZI t.ZT t.Zf t.ZD t.ZF t.ZC t.Zi t.Zo t.Zh,J7 (m:=0) (k:=92) (Z1:=Z1) (Zl:=Zl) (Z3:=Z3) (Z2:=Z2) (Z5:=Z5) (Z6:=Z6) (Z4:=Z4) (Z7:=Z7) (Z0:=Z0) (t.ZW P w base) (mX.mono (by omega)) (Mp.mono (by omega)) ((Yb ((t.ZR P w base).none (λ_ _ _ _ h=>YE h)) t.Z8 (Yb ((t.ZX P w base).none (λ_ _ _ _ h=>YE h)) t.Zd (Yb ((t.jf P w base).none (λ_ _ _ _ h=>YE h)) t.Zf (Yb ((t.ZW P w base).none (λ_ _ _ _ h=>YE h)) t.Zb (Yb ((t.ZY P w base).none (λ_ _ _ _ h=>YE h)) t.Zc (Yb ((t.ZS P w base).none (λ_ _ _ _ h=>YE h)) t.Za (Yb ((t.je P w base).none (λ_ _ _ _ h=>YE h)) t.Ze YO)))))))) t.ZL t.ZG t.ZI t.ZT t.Zb t.Zp t.Zs t.Zm,Kp (m:=0) (k:=92) (Z1:=Z1) (Zl:=Zl) (Z3:=Z3) (Z2:=Z2) (Z5:=Z5) (Z6:=Z6) (Z4:=Z4) (Z7:=Z7) (Z0:=Z0) (t.ZY P w base) (mX.mono (by omega)) (Mq.mono (by omega)) ((Yb ((t.ZR P w base).none (λ_ _ _ _ h=>YE h)) t.Z8 (Yb ((t.ZX P w base).none (λ_ _ _ _ h=>YE h)) t.Zd (Yb ((t.jf P w base).none (λ_ _ _ _ h=>YE h)) t.Zf (Yb ((t.ZW P w base).none (λ_ _ _ _ h=>YE h)) t.Zb (Yb ((t.ZY P w base).none (λ_ _ _ _ h=>YE h)) t.Zc (Yb ((t.ZS P w base).none (λ_ _ _ _ h=>YE h)) t.Za (Yb ((t.je P w base).none (λ_ _ _ _ h=>YE h)) t.Ze YO)))))))) t.ZL t.ZG t.ZI t.ZT t.Zc t.Zq t.Zt,Ko (m:=0) (k:=92) (Z1:=Z1) (Z3:=Z3) (Z2:=Z2) (Z5:=Z5) (Z6:=Z6) (Z4:=Z4) (Z7:=Z7) (Z0:=Z0) (t.ZS P w base) ((Yb ((t.ZR P w base).none (λ_ _ _ _ h=>YE h)) t.Z8 (Yb ((t.ZX P w base).none (λ_ _ _ _ h=>YE h)) t.Zd (Yb ((t.jf P w base).none (λ_ _ _ _ h=>YE h)) t.Zf (Yb ((t.ZW P w base).none (λ_ _ _ _ h=>YE h)) t.Zb (Yb ((t.ZY P w base).none (λ_ _ _ _ h=>YE h)) t.Zc (Yb ((t.ZS P w base).none (λ_ _ _ _ h=>YE h)) t.Za (Yb ((t.je P w base).none (λ_ _ _ _ h=>YE h)) t.Ze YO)))))))) t.Zj t.Za t.Zx t.Zy t.Zk,J4 (m:=0) (k:=92) (Z1:=Z1) (Z3:=Z3) (Z2:=Z2) (Z5:=Z5) (Z6:=Z6) (Z4:=Z4) (Z7:=Z7) (Z0:=Z0) (t.je P w base) ((Yb ((t.ZR P w base).none (λ_ _ _ _ h=>YE h)) t.Z8 (Yb ((t.ZX P w base).none (λ_ _ _ _ h=>YE h)) t.Zd (Yb ((t.jf P w base).none (λ_ _ _ _ h=>YE h)) t.Zf (Yb ((t.ZW P w base).none (λ_ _ _ _ h=>YE h)) t.Zb (Yb ((t.ZY P w base).none (λ_ _ _ _ h=>YE h)) t.Zc (Yb ((t.ZS P w base).none (λ_ _ _ _ h=>YE h)) t.Za (Yb ((t.je P w base).none (λ_ _ _ _ h=>YE h)) t.Ze YO)))))))) t.Ze t.Zv t.Zn⟩
  | succ i ih =>
   obtain ⟨qK,qL,qM,qN,qO,qP,qQ⟩:=ih;exact ⟨J3 (m:=i+1) (k:=92+i+1) (Z1:=Z1) (Z3:=Z3) (Z2:=Z2) (Z5:=Z5) (Z6:=Z6) (Z4:=Z4) (Z7:=Z7) (Z0:=Z0) (t.ZR P w base) (uW.mono (by omega)) t.Z8 t.Zg t.ZE t.Zz,((Kl (m:=i+1) (Z1:=Z1) (Z3:=Z3) (Z2:=Z2) (Z5:=Z5) (Z6:=Z6) (Z4:=Z4) (Z7:=Z7) (Z0:=Z0) (t.ZX P w base) t.au t.Zj t.Zd t.ZA t.Zr).mono (by omega)),Ka (m:=i+1) (k:=92+i+1) (Z1:=Z1) (Zl:=Zl) (Z3:=Z3) (Z2:=Z2) (Z5:=Z5) (Z6:=Z6) (Z4:=Z4) (Z7:=Z7) (Z0:=Z0) (t.jf P w base) (mX.mono (by omega)) (Ml.mono (by omega)) ((Yb qK t.Z8 (Yb qL t.Zd (Yb qM t.Zf (Yb qN t.Zb (Yb qO t.Zc (Yb qP t.Za (Yb qQ t.Ze YO)))))))) t.mj t.cg t.ZL t.ZG t.ZI t.ZT t.Zf t.ZD t.ZF t.ZC t.Zi t.Zo t.Zh,J7 (m:=i+1) (k:=92+i+1) (Z1:=Z1) (Zl:=Zl) (Z3:=Z3) (Z2:=Z2) (Z5:=Z5) (Z6:=Z6) (Z4:=Z4) (Z7:=Z7) (Z0:=Z0) (t.ZW P w base) (mX.mono (by omega)) (Mp.mono (by omega)) ((Yb qK t.Z8 (Yb qL t.Zd (Yb qM t.Zf (Yb qN t.Zb (Yb qO t.Zc (Yb qP t.Za (Yb qQ t.Ze YO)))))))) t.ZL t.ZG t.ZI t.ZT t.Zb t.Zp t.Zs t.Zm,Kp (m:=i+1) (k:=92+i+1) (Z1:=Z1) (Zl:=Zl) (Z3:=Z3) (Z2:=Z2) (Z5:=Z5) (Z6:=Z6) (Z4:=Z4) (Z7:=Z7) (Z0:=Z0) (t.ZY P w base) (mX.mono (by omega)) (Mq.mono (by omega)) ((Yb qK t.Z8 (Yb qL t.Zd (Yb qM t.Zf (Yb qN t.Zb (Yb qO t.Zc (Yb qP t.Za (Yb qQ t.Ze YO)))))))) t.ZL t.ZG t.ZI t.ZT t.Zc t.Zq t.Zt,Ko (m:=i+1) (k:=92+i+1) (Z1:=Z1) (Z3:=Z3) (Z2:=Z2) (Z5:=Z5) (Z6:=Z6) (Z4:=Z4) (Z7:=Z7) (Z0:=Z0) (t.ZS P w base) ((Yb qK t.Z8 (Yb qL t.Zd (Yb qM t.Zf (Yb qN t.Zb (Yb qO t.Zc (Yb qP t.Za (Yb qQ t.Ze YO)))))))) t.Zj t.Za t.Zx t.Zy t.Zk,J4 (m:=i+1) (k:=92+i+1) (Z1:=Z1) (Z3:=Z3) (Z2:=Z2) (Z5:=Z5) (Z6:=Z6) (Z4:=Z4) (Z7:=Z7) (Z0:=Z0) (t.je P w base) ((Yb qK t.Z8 (Yb qL t.Zd (Yb qM t.Zf (Yb qN t.Zb (Yb qO t.Zc (Yb qP t.Za (Yb qQ t.Ze YO)))))))) t.Ze t.Zv t.Zn⟩
 obtain ⟨Z40,Z4G,Z4Y,Z4H,Z4I,Z41,Z4Z⟩:=Z4F 17;have nW:=Ybp (k:=110) (Z1:=Z1) (Z3:=Z3) (Z2:=Z2) (Z5:=Z5) (Z6:=Z6) (Z4:=Z4) (Z7:=Z7) (Z0:=Z0) (t.Ca P w base) ((Yb (Lz.mono (by decide)) t.Z8 (Yb (LK.mono (by decide)) t.Zd (Yb (Mf.mono (by decide)) t.Zf (Yb (Mg.mono (by decide)) t.Zb (Yb (Mh.mono (by decide)) t.Zc (Yb (Mi.mono (by decide)) t.Za (Yb (Mj.mono (by decide)) t.Ze YO)))))))) ((Yb (Z40.mono (by decide)) t.Z8 (Yb (Z4G.mono (by decide)) t.Zd (Yb (Z4Y.mono (by decide)) t.Zf (Yb (Z4H.mono (by decide)) t.Zb (Yb (Z4I.mono (by decide)) t.Zc (Yb (Z41.mono (by decide)) t.Za (Yb (Z4Z.mono (by decide)) t.Ze YO)))))))) t.Zj;have Z5s:=Z59 (t.Cd P w base);have kW:=Yac (k:=111) (Z1:=Z1) (Z3:=Z3) (Z2:=Z2) (Z5:=Z5) (Z6:=Z6) (Z4:=Z4) (Z7:=Z7) (Z0:=Z0) (t.Ce P w base) (lC.mono (by decide)) (Z5s.mono (by decide)) (nW.mono (by decide)) ((Yb (Lz.mono (by decide)) t.Z8 (Yb (LK.mono (by decide)) t.Zd (Yb (Mf.mono (by decide)) t.Zf (Yb (Mg.mono (by decide)) t.Zb (Yb (Mh.mono (by decide)) t.Zc (Yb (Mi.mono (by decide)) t.Za (Yb (Mj.mono (by decide)) t.Ze YO))))))));have MK:=Ya7 (t.Cg P w base) t.Zj;have MN:=Z67 (t.Ci P w base) t.cu t.Zj;have nY:∀ i:Nat,((Gx.mk P w K mg base).Fn (1+i+1) "_law_rows" ["_law_book","_law_parts","_law_size_here"] (pQ (Gx.mk P w K mg base).K (i+1)))/\((Gx.mk P w K mg base).Fn (1+i+1) "_law_lists" ["_law_book","_law_part","_law_size_here"] (pR (Gx.mk P w K mg base).K (i+1)))/\((Gx.mk P w K mg base).Fn (1+i+1) "_law_all" ["_law_book","_law_shape_here","_law_size_here"] (cI (Gx.mk P w K mg base).K (i+1))):=by
  intro i
  induction i with
  | zero=>exact ⟨KH (m:=0) (k:=1) (t.mK P w base) ((t.mK P w base).none (λ_ _ _ _ h=>KC h)) ((t.kE P w base).none (λ_ _ _ _ h=>QN h)) t.gC t.Zj,KJ (m:=0) (k:=1) (t.mL P w base) ((t.mL P w base).none (λ_ _ _ _ h=>Q6 h)) ((t.kE P w base).none (λ_ _ _ _ h=>QN h)) t.Zj,KZ (m:=0) (k:=1) (t.kE P w base) (MK.mono (by omega)) (MN.mono (by omega)) ((t.mK P w base).none (λ_ _ _ _ h=>KC h)) ((t.mL P w base).none (λ_ _ _ _ h=>Q6 h)) ((t.kE P w base).none (λ_ _ _ _ h=>QN h)) t.fj t.Zj⟩
  | succ i ih =>
   obtain ⟨MP,M4,Cr⟩:=ih;exact ⟨KH (m:=i+1) (k:=1+i+1) (t.mK P w base) MP Cr t.gC t.Zj,KJ (m:=i+1) (k:=1+i+1) (t.mL P w base) M4 Cr t.Zj,KZ (m:=i+1) (k:=1+i+1) (t.kE P w base) (MK.mono (by omega)) (MN.mono (by omega)) MP M4 Cr t.fj t.Zj⟩
 obtain ⟨Dh,Cu,jC⟩:=nY 117;have uY:=Z68 (t.Cj P w base) t.au;have uZ:=Ybq (t.Ck P w base) t.Zj;have u0:=Ybr (t.Cm P w base);have jE:=Bd (m:=0) (k:=1) (t.mO P w base) (uY.mono (by decide)) (uZ.mono (by decide)) (u0.mono (by decide)) ((t.mO P w base).none (λ_ _ _ _ h=>Yej h));have jF:=Bd (m:=1) (k:=2) (t.mO P w base) (uY.mono (by decide)) (uZ.mono (by decide)) (u0.mono (by decide)) (jE.mono (by decide));have lD:=Bd (m:=2) (k:=3) (t.mO P w base) (uY.mono (by decide)) (uZ.mono (by decide)) (u0.mono (by decide)) (jF.mono (by decide));have nZ:=Ybs (k:=119) (t.Cp P w base) (jC.mono (by decide)) t.au;have Z5t:=pY (m:=0) (k:=0) (t.kJ P w base) ((t.jB P w base).none (λ_ _ _ _ h=>Ygl h)) t.au t.Zj;have kY:=pZ (m:=0) (k:=1) (t.jB P w base) (Z5t.mono (by decide)) t.cj t.Zw t.aP t.cg;have Z5u:=pY (m:=1) (k:=2) (t.kJ P w base) (kY.mono (by decide)) t.au t.Zj;have kZ:=pZ (m:=1) (k:=3) (t.jB P w base) (Z5u.mono (by decide)) t.cj t.Zw t.aP t.cg;have Z5v:=pY (m:=2) (k:=4) (t.kJ P w base) (kZ.mono (by decide)) t.au t.Zj;have lg:=pZ (m:=2) (k:=5) (t.jB P w base) (Z5v.mono (by decide)) t.cj t.Zw t.aP t.cg;have Z5w:=pY (m:=3) (k:=6) (t.kJ P w base) (lg.mono (by decide)) t.au t.Zj;have lq:=pZ (m:=3) (k:=7) (t.jB P w base) (Z5w.mono (by decide)) t.cj t.Zw t.aP t.cg;have Z5x:=pY (m:=4) (k:=8) (t.kJ P w base) (lq.mono (by decide)) t.au t.Zj;have n6:=pZ (m:=4) (k:=9) (t.jB P w base) (Z5x.mono (by decide)) t.cj t.Zw t.aP t.cg;have Z5M:=mF (m:=0) (k:=0) (t.jg P w base) ((t.jg P w base).none (λ_ _ _ _ h=>Ye4 h)) t.Zw t.aP t.cg;have Z5N:=mF (m:=1) (k:=1) (t.jg P w base) (Z5M.mono (by decide)) t.Zw t.aP t.cg;have Z5O:=mF (m:=2) (k:=2) (t.jg P w base) (Z5N.mono (by decide)) t.Zw t.aP t.cg;have Z5P:=mF (m:=3) (k:=3) (t.jg P w base) (Z5O.mono (by decide)) t.Zw t.aP t.cg;have Z5Q:=mF (m:=4) (k:=4) (t.jg P w base) (Z5P.mono (by decide)) t.Zw t.aP t.cg;have Z69:=mF (m:=5) (k:=5) (t.jg P w base) (Z5Q.mono (by decide)) t.Zw t.aP t.cg;have qR:=Yc6 (k:=6) (t.Cq P w base) (Z69.mono (by decide)) t.au;exact Ye7 (g:=Gx.mk P w K mg base) (k:=120) (kW.mono (by decide)) (uY.mono (by decide)) (uZ.mono (by decide)) (jC.mono (by decide)) (u0.mono (by decide)) (lD.mono (by decide)) (nZ.mono (by decide)) (n6.mono (by decide)) (qR.mono (by decide)) t.Zw t.au t.aP t.cu
end KW
namespace PySem.W.Fast
theorem tw11015609733263202919:True:=⟨⟩
theorem tw14657697559735253583:True:=⟨⟩
theorem tw8965162316640798682:True:=⟨⟩
theorem tw14540799537516979379:True:=⟨⟩
theorem tw8662251706636290828:True:=⟨⟩
theorem tw17580421839272509562:True:=⟨⟩
theorem tw5222467594628482656:True:=⟨⟩
theorem tw6684636985268820386:True:=⟨⟩
theorem tw11295362918470481133:True:=⟨⟩
theorem tw12030282191503363845:True:=⟨⟩
theorem tw9880793820987435405:True:=⟨⟩
theorem tw15464946634381952550:True:=⟨⟩
theorem tw11789182326977509618:True:=⟨⟩
theorem tw5052803797398977461:True:=⟨⟩
theorem tw14554967086938871077:True:=⟨⟩
theorem tw3811546057657841144:True:=⟨⟩
theorem tw9901946850421297406:True:=⟨⟩
theorem tw3872885658725639118:True:=⟨⟩
theorem tw2682141977548626137:True:=⟨⟩
theorem tw17873368111246951499:True:=⟨⟩
theorem tw9180928272893091691:True:=⟨⟩
theorem tw4065695738999165352:True:=⟨⟩
theorem tw7679398239320817277:True:=⟨⟩
theorem tw6322632319302863189:True:=⟨⟩
theorem tw17393993113173099615:True:=⟨⟩
theorem tw1899193315145169504:True:=⟨⟩
theorem tw18234367451709637183:True:=⟨⟩
theorem tw478520288065954971:True:=⟨⟩
theorem tw13020486160232393826:True:=⟨⟩
theorem tw11191507652596368797:True:=⟨⟩
theorem tw10342312383595637459:True:=⟨⟩
theorem tw9109131113944761944:True:=⟨⟩
theorem tw3799111709784322704:True:=⟨⟩
theorem tw5458755463779690800:True:=⟨⟩
theorem tw15155499058138926892:True:=⟨⟩
theorem tw8307551314649297499:True:=⟨⟩
theorem tw4018714726318315699:True:=⟨⟩
theorem tw12791831900883979201:True:=⟨⟩
theorem tw3125669921904747878:True:=⟨⟩
theorem tw5030515314224279334:True:=⟨⟩
theorem tw6449295980548349378:True:=⟨⟩
theorem tw17237026828168401636:True:=⟨⟩
theorem tw4810942800682294745:True:=⟨⟩
theorem tw7755539392992571792:True:=⟨⟩
theorem tw1001767052250693313:True:=⟨⟩
theorem tw10650894808496304469:True:=⟨⟩
theorem tw6494414489725767910:True:=⟨⟩
theorem tw1258913205121050727:True:=⟨⟩
theorem tw16601564279412714919:True:=⟨⟩
theorem tw5203637179412583661:True:=⟨⟩
theorem tw459517177026293471:True:=⟨⟩
theorem tw15858144547011510346:True:=⟨⟩
theorem tw9182884962183569445:True:=⟨⟩
theorem tw2303597698723019879:True:=⟨⟩
theorem tw14808947527619925887:True:=⟨⟩
theorem tw16274719723801066722:True:=⟨⟩
theorem tw13542316631319950211:True:=⟨⟩
theorem tw7349559182635034244:True:=⟨⟩
theorem tw17225931689626986425:True:=⟨⟩
theorem tw6527252294811454244:True:=⟨⟩
theorem tw2213262010337036542:True:=⟨⟩
theorem tw7907865097566775002:True:=⟨⟩
theorem tw6470530555843855397:True:=⟨⟩
theorem tw14458964272364555096:True:=⟨⟩
theorem tw6122040371386033911:True:=⟨⟩
theorem tw17320467357370792111:True:=⟨⟩
theorem tw12084710620805304101:True:=⟨⟩
theorem tw10151499532443400921:True:=⟨⟩
theorem tw7343357646102698876:True:=⟨⟩
theorem tw18298862442479450492:True:=⟨⟩
theorem tw4880247809400113525:True:=⟨⟩
theorem tw11527747478272575559:True:=⟨⟩
theorem tw10430088487191305443:True:=⟨⟩
theorem tw14932685150727360856:True:=⟨⟩
theorem tw176857738052864259:True:=⟨⟩
theorem tw15947255529677779911:True:=⟨⟩
theorem tw1998725402592263605:True:=⟨⟩
theorem tw2972369984859700455:True:=⟨⟩
theorem tw15262904474984372885:True:=⟨⟩
theorem tw7893924834580718894:True:=⟨⟩
theorem tw18345516432234936743:True:=⟨⟩
theorem tw13442125918179499693:True:=⟨⟩
theorem tw2958391488799948363:True:=⟨⟩
theorem tw16370515653595603380:True:=⟨⟩
theorem tw3633622921217041661:True:=⟨⟩
theorem tw161907849784642797:True:=⟨⟩
theorem tw4018735543954313042:True:=⟨⟩
theorem tw13119131565815980006:True:=⟨⟩
theorem tw3507218687012440084:True:=⟨⟩
theorem tw18018924938391077340:True:=⟨⟩
theorem tw6594934123025997020:True:=⟨⟩
theorem tw1474926677945454258:True:=⟨⟩
theorem tw10051231324087087141:True:=⟨⟩
theorem tw9067433302412357307:True:=⟨⟩
theorem tw11066517153880923771:True:=⟨⟩
theorem tw4119797095110064932:True:=⟨⟩
theorem tw6114803466184471688:True:=⟨⟩
theorem tw1095907637577697674:True:=⟨⟩
theorem tw2296784219257673571:True:=⟨⟩
theorem tw4525567707792513070:True:=⟨⟩
theorem tw11683700065751882929:True:=⟨⟩
theorem tw3599037828110405608:True:=⟨⟩
theorem tw6235080532007928721:True:=⟨⟩
theorem tw809194875143835180:True:=⟨⟩
theorem tw9397815063664283056:True:=⟨⟩
theorem tw5826667414131371860:True:=⟨⟩
theorem tw11163203451992947134:True:=⟨⟩
theorem tw17525783900116019851:True:=⟨⟩
theorem tw9470335084808429187:True:=⟨⟩
theorem tw7787115832219864738:True:=⟨⟩
theorem tw12836300827161120435:True:=⟨⟩
theorem tw3225039767994028146:True:=⟨⟩
theorem tw4992135398016856453:True:=⟨⟩
theorem tw10055193732488055553:True:=⟨⟩
theorem tw9568628728739834759:True:=⟨⟩
theorem tw3452153066048592494:True:=⟨⟩
theorem tw17437001021196407228:True:=⟨⟩
theorem tw6474335097088561901:True:=⟨⟩
theorem tw14094928909172378696:True:=⟨⟩
theorem tw15738035841776019264:True:=⟨⟩
theorem tw9438735741081585746:True:=⟨⟩
theorem tw6899316831338252280:True:=⟨⟩
theorem tw6061692483309535110:True:=⟨⟩
theorem tw4688290095337597713:True:=⟨⟩
theorem tw10632372524579747180:True:=⟨⟩
theorem tw5741554950712484562:True:=⟨⟩
theorem tw10254895386505863037:True:=⟨⟩
theorem tw15472017818256672605:True:=⟨⟩
theorem tw6400727409555398619:True:=⟨⟩
theorem tw7580971686107751848:True:=⟨⟩
theorem tw12737486693612625547:True:=⟨⟩
theorem tw7416907941145816107:True:=⟨⟩
theorem tw995848829306817202:True:=⟨⟩
theorem tw8059790947700698633:True:=⟨⟩
theorem tw12456743485839961222:True:=⟨⟩
theorem tw8097133975278655123:True:=⟨⟩
theorem tw1453076132465949930:True:=⟨⟩
theorem tw7485642944935769267:True:=⟨⟩
theorem tw2398178339991947218:True:=⟨⟩
theorem tw17416705725636635309:True:=⟨⟩
theorem tw13788609818765078500:True:=⟨⟩
theorem tw2866974655240803761:True:=⟨⟩
theorem tw14934921516487631539:True:=⟨⟩
theorem tw5469658013414469213:True:=⟨⟩
theorem tw3912917523556691968:True:=⟨⟩
theorem tw13325467051511305561:True:=⟨⟩
theorem tw742838117973773195:True:=⟨⟩
theorem tw395640077994263378:True:=⟨⟩
theorem tw14736789067502813568:True:=⟨⟩
theorem tw9126054340853899765:True:=⟨⟩
theorem tw138861177668195856:True:=⟨⟩
theorem tw1057146492648911594:True:=⟨⟩
theorem tw13539423281569731220:True:=⟨⟩
theorem tw10434315182860223189:True:=⟨⟩
theorem tw12591399670025918761:True:=⟨⟩
theorem tw16791738764265039288:True:=⟨⟩
theorem tw16361092928612935786:True:=⟨⟩
theorem tw15573064894147160339:True:=⟨⟩
theorem tw15504951994215269071:True:=⟨⟩
theorem tw1994244744344781945:True:=⟨⟩
theorem tw1166796354201694515:True:=⟨⟩
theorem tw10540973393729739750:True:=⟨⟩
theorem tw4396976109432318150:True:=⟨⟩
theorem tw16280025133517721391:True:=⟨⟩
theorem tw10410289715825367329:True:=⟨⟩
theorem tw6873488719572019920:True:=⟨⟩
theorem tw2254297736637241987:True:=⟨⟩
theorem tw10535145669990094912:True:=⟨⟩
theorem tw6025986250545498758:True:=⟨⟩
theorem tw15711862664630257537:True:=⟨⟩
theorem tw5484741412276779091:True:=⟨⟩
theorem tw17087214221191817965:True:=⟨⟩
theorem tw8886278343641418075:True:=⟨⟩
theorem tw2163583468507590611:True:=⟨⟩
theorem tw16734950532704871229:True:=⟨⟩
theorem tw5349509658103998093:True:=⟨⟩
theorem tw204149302232397275:True:=⟨⟩
theorem tw11704863410985637277:True:=⟨⟩
theorem tw5423453723230395409:True:=⟨⟩
theorem tw4480974455748047081:True:=⟨⟩
theorem tw2534758313334138338:True:=⟨⟩
theorem tw3410598272080769428:True:=⟨⟩
theorem tw1596599915668029364:True:=⟨⟩
theorem tw12696411016507463508:True:=⟨⟩
theorem tw8556570852629827935:True:=⟨⟩
theorem tw11825671915134758778:True:=⟨⟩
theorem tw8375013191951007733:True:=⟨⟩
theorem tw17500347142487940810:True:=⟨⟩
theorem tw10410298414847908001:True:=⟨⟩
theorem tw2326260885060584638:True:=⟨⟩
theorem tw14322114947251288063:True:=⟨⟩
theorem tw11350481368273175941:True:=⟨⟩
theorem tw4721755785649607180:True:=⟨⟩
theorem tw10028509552196129431:True:=⟨⟩
theorem tw9729121682625284851:True:=⟨⟩
theorem tw6321608261867223655:True:=⟨⟩
theorem tw15082894789963788065:True:=⟨⟩
theorem tw1430323403603581980:True:=⟨⟩
theorem tw8484464653112444799:True:=⟨⟩
theorem tw3353811269772287920:True:=⟨⟩
theorem tw16534601800888998289:True:=⟨⟩
theorem tw16126248630823827969:True:=⟨⟩
theorem tw2537557882897577325:True:=⟨⟩
theorem tw16316462065888630505:True:=⟨⟩
theorem tw13714398307628095205:True:=⟨⟩
theorem tw3661611426575854274:True:=⟨⟩
theorem tw10403124693036930812:True:=⟨⟩
theorem tw692364651841280196:True:=⟨⟩
theorem tw8074980162235212722:True:=⟨⟩
theorem tw17954994581144456110:True:=⟨⟩
theorem tw12833647653004035794:True:=⟨⟩
theorem tw9641580536692025678:True:=⟨⟩
end PySem.W.Fast
open PySem PySem.W PyProof.Rows
set_option maxRecDepth 100000 in
set_option maxHeartbeats 0 in
theorem PySem.Challenge.cw_countgen_k40_all_values_holds : PySem.Challenge.rw_countgen_k40_all_values.Holds := by
 w_on;o_law;k_head;(case hw=>w_witness2)
 k_fill
 refine L2.SN (l:=PySem.Challenge.rw_countgen_k40_all_values) 120 "_law_script" KW.uo ["_law_script","_law_name_here","_law_book","_law_shape_here","_law_size_here","_law_due","_law_most","_law_handed","_law_found"] rfl rfl ⟨rfl,by decide,by decide,rfl⟩ KW.X1 (λw h Y=>by first | exact PySem.W.kIn_of Y | exact PySem.W.km_in_of Y) ?F
 case F =>
  intro w mg h KX G;refine' ⟨L2.SM KX G ?a ?l ?c ?k (λ_ _ _ _ _ _ _ _ => .of_eq rfl),λbase=>KW.Ye8 ⟨?ZP,?ZM,?ZZ,?ZV,?ZN,?jd,?ZQ,?Bo,?qd,?qe,?Bp,?qg,?qj,?mH,?ql,?qm,?qp,?qt,?qu,?qw,?qx,?Bq,?Br,?Bt,?Bu,?Bv,?Bw,?Bx,?BJ,?BK,?BL,?BP,?BR,?qy,?qz,?mJ,?BW,?BX,?BZ,?ZR,?je,?ZW,?jf,?ZX,?ZS,?ZY,?Ca,?Cd,?Ce,?Cg,?Ci,?mK,?mL,?kE,?Cj,?Ck,?Cm,?mO,?Cp,?kJ,?jB,?jg,?Cq,?Za,?Zx,?Zy,?Zk,?ZL,?ZG,?ZI,?ZT,?ZH,?ZJ,?Zu,?Zc,?Zq,?Zt,?Zb,?Zp,?Zs,?Zm,?Zf,?ZD,?ZF,?ZC,?Zi,?Zo,?Zh,?Zd,?ZA,?Zr,?Ze,?Zv,?Zn,?Z8,?Zg,?ZE,?Zz,?pF,?cj,?fj,?mj,?gC,?Zw,?au,?aP,?gA,?cu,?Zj,?iQ,?cg⟩ _ w base⟩;(case a=>k_is);(case l=>k_is);(case c=>k_is);(case k=>k_is)
  case Bt=>refine' L2.XY KX G ["self","low","high"] ?_ ?_ ?_ ?_ ?_ ?_ ?_ ?_ (λ_ _ _ _ _ _ us hl=>by obtain ⟨_,_,_,rfl⟩:=KW.gY hl;rfl)<;>try k_is
  case Bu=>refine' L2.XY KX G ["self","signs"] ?_ ?_ ?_ ?_ ?_ ?_ ?_ ?_ (λ_ _ _ _ _ _ us hl=>by obtain ⟨_,_,rfl⟩:=KW.cJ hl;rfl)<;>try k_is
  case Bv=>refine' L2.XY KX G ["self","part"] ?_ ?_ ?_ ?_ ?_ ?_ ?_ ?_ (λ_ _ _ _ _ _ us hl=>by obtain ⟨_,_,rfl⟩:=KW.cJ hl;rfl)<;>try k_is
  case Bw=>refine' L2.XY KX G ["self","part","times"] ?_ ?_ ?_ ?_ ?_ ?_ ?_ ?_ (λ_ _ _ _ _ _ us hl=>by obtain ⟨_,_,_,rfl⟩:=KW.gY hl;rfl)<;>try k_is
  case Bx=>refine' L2.XY KX G ["self","marks","parts"] ?_ ?_ ?_ ?_ ?_ ?_ ?_ ?_ (λ_ _ _ _ _ _ us hl=>by obtain ⟨_,_,_,rfl⟩:=KW.gY hl;rfl)<;>try k_is
  case BJ=>refine' L2.XY KX G ["self"] ?_ ?_ ?_ ?_ ?_ ?_ ?_ ?_ (λ_ _ _ _ _ _ us hl=>by obtain ⟨_,rfl⟩:=KW.kj hl;rfl)<;>try k_is
  case BK | BL=>refine' L2.XY KX G ["self","parts"] ?_ ?_ ?_ ?_ ?_ ?_ ?_ ?_ (λ_ _ _ _ _ _ us hl=>by obtain ⟨_,_,rfl⟩:=KW.cJ hl;rfl)<;>try k_is
  case BP=>refine' L2.XY KX G ["self","book"] ?_ ?_ ?_ ?_ ?_ ?_ ?_ ?_ (λ_ _ _ _ _ _ us hl=>by obtain ⟨_,_,rfl⟩:=KW.cJ hl;rfl)<;>try k_is
  case BX=>refine' L2.XY KX G ["self","place","choice","rest"] ?_ ?_ ?_ ?_ ?_ ?_ ?_ ?_ (λ_ _ _ _ _ _ us hl=>by obtain ⟨_,_,_,_,rfl⟩:=KW.Bm hl;rfl)<;>try k_is
  case ZP | ZM | ZZ | ZV | ZN | jd | ZQ=>refine' L2.XM KX G ["self","size"] ?_ ?_ ?_ ?_ ?_ (λ_ _ _ _ _ _ us hl=>by obtain ⟨_,_,rfl⟩:=KW.cJ hl;rfl)<;>try k_is
  case Bo=>refine' L2.Xa KX G ["size"] ?_ ?_ ?_ ?_ (λ_ _ _ _ _ _ us hl=>by obtain ⟨_,rfl⟩:=KW.kj hl;rfl)<;>try k_is
  case qd | qe=>refine' L2.XM KX G ["self","size"] ?_ ?_ ?_ ?_ ?_ (λ_ _ _ _ _ _ us hl=>by obtain ⟨_,_,rfl⟩:=KW.cJ hl;rfl)<;>try k_is
  case Bp=>refine' L2.Xa KX G ["blocks"] ?_ ?_ ?_ ?_ (λ_ _ _ _ _ _ us hl=>by obtain ⟨_,rfl⟩:=KW.kj hl;rfl)<;>try k_is
  case qg=>refine' L2.XM KX G ["self","place","left"] ?_ ?_ ?_ ?_ ?_ (λ_ _ _ _ _ _ us hl=>by obtain ⟨_,_,_,rfl⟩:=KW.gY hl;rfl)<;>try k_is
  case qj=>refine' L2.XM KX G ["self","size"] ?_ ?_ ?_ ?_ ?_ (λ_ _ _ _ _ _ us hl=>by obtain ⟨_,_,rfl⟩:=KW.cJ hl;rfl)<;>try k_is
  case mH=>refine' L2.XM KX G ["self","place","left"] ?_ ?_ ?_ ?_ ?_ (λ_ _ _ _ _ _ us hl=>by obtain ⟨_,_,_,rfl⟩:=KW.gY hl;rfl)<;>try k_is
  case ql | qm | qp=>refine' L2.XM KX G ["self","size"] ?_ ?_ ?_ ?_ ?_ (λ_ _ _ _ _ _ us hl=>by obtain ⟨_,_,rfl⟩:=KW.cJ hl;rfl)<;>try k_is
  case qt=>refine' L2.XM KX G ["self","left"] ?_ ?_ ?_ ?_ ?_ (λ_ _ _ _ _ _ us hl=>by obtain ⟨_,_,rfl⟩:=KW.cJ hl;rfl)<;>try k_is
  case qu | qw | qx=>refine' L2.XM KX G ["self","size"] ?_ ?_ ?_ ?_ ?_ (λ_ _ _ _ _ _ us hl=>by obtain ⟨_,_,rfl⟩:=KW.cJ hl;rfl)<;>try k_is
  case Bq=>refine' L2.Xa KX G ["shape"] ?_ ?_ ?_ ?_ (λ_ _ _ _ _ _ us hl=>by obtain ⟨_,rfl⟩:=KW.kj hl;rfl)<;>try k_is
  case Br=>refine' L2.TX KX G ["self"] ?_ ?_ ?_ ?_ ?_ ?_ ?_ (λ_ _ _ _ _ _ us hl=>by obtain ⟨_,rfl⟩:=KW.kj hl;rfl)<;>try k_is
  case BR=>refine' L2.Xa KX G ["book","name"] ?_ ?_ ?_ ?_ (λ_ _ _ _ _ _ us hl=>by obtain ⟨_,_,rfl⟩:=KW.cJ hl;rfl)<;>try k_is
  case qy | qz | mJ=>refine' L2.XM KX G ["self","shape"] ?_ ?_ ?_ ?_ ?_ (λ_ _ _ _ _ _ us hl=>by obtain ⟨_,_,rfl⟩:=KW.cJ hl;rfl)<;>try k_is
  case BW=>refine' L2.Xa KX G ["book","shape"] ?_ ?_ ?_ ?_ (λ_ _ _ _ _ _ us hl=>by obtain ⟨_,_,rfl⟩:=KW.cJ hl;rfl)<;>try k_is
  case BZ=>refine' L2.Xa KX G ["blocks","number"] ?_ ?_ ?_ ?_ (λ_ _ _ _ _ _ us hl=>by obtain ⟨_,_,rfl⟩:=KW.cJ hl;rfl)<;>try k_is
  case ZR | je | ZW | jf | ZX | ZS | ZY=>refine' L2.XM KX G ["self","size","number"] ?_ ?_ ?_ ?_ ?_ (λ_ _ _ _ _ _ us hl=>by obtain ⟨_,_,_,rfl⟩:=KW.gY hl;rfl)<;>try k_is
  case Ca=>refine' L2.Xa KX G ["maker","size"] ?_ ?_ ?_ ?_ (λ_ _ _ _ _ _ us hl=>by obtain ⟨_,_,rfl⟩:=KW.cJ hl;rfl)<;>try k_is
  case Cd=>refine' L2.Xa KX G ["count","most"] ?_ ?_ ?_ ?_ (λ_ _ _ _ _ _ us hl=>by obtain ⟨_,_,rfl⟩:=KW.cJ hl;rfl)<;>try k_is
  case Ce =>
   refine' L2.YeM KX G ["book","shape","size","most"] [.int 400] 3 ?a ?l ?c ?k ?t ?s ?v ?e ?b ?b0;(case a=>k_is);(case l=>k_is);(case c=>k_is);(case k=>k_is);(case t=>k_is);(case s=>rfl);(case v=>exact .cons ⟨_,rfl⟩ (.nil));(case e=>rfl);(case b=>exact λus hl=>match us,hl with | [_,_,_],_=>⟨_,rfl,rfl⟩);(case b0=>exact λus hl=>match us,hl with | [_,_,_,_],_=>⟨_,rfl,rfl⟩)
  case Cg=>refine' L2.Xa KX G ["_law_signs","_law_size_here"] ?_ ?_ ?_ ?_ (λ_ _ _ _ _ _ us hl=>by obtain ⟨_,_,rfl⟩:=KW.cJ hl;rfl)<;>try k_is
  case Ci=>refine' L2.Xa KX G ["_law_low","_law_high","_law_size_here"] ?_ ?_ ?_ ?_ (λ_ _ _ _ _ _ us hl=>by obtain ⟨_,_,_,rfl⟩:=KW.gY hl;rfl)<;>try k_is
  case mK=>refine' L2.Xa KX G ["_law_book","_law_parts","_law_size_here"] ?_ ?_ ?_ ?_ (λ_ _ _ _ _ _ us hl=>by obtain ⟨_,_,_,rfl⟩:=KW.gY hl;rfl)<;>try k_is
  case mL=>refine' L2.Xa KX G ["_law_book","_law_part","_law_size_here"] ?_ ?_ ?_ ?_ (λ_ _ _ _ _ _ us hl=>by obtain ⟨_,_,_,rfl⟩:=KW.gY hl;rfl)<;>try k_is
  case kE=>refine' L2.Xa KX G ["_law_book","_law_shape_here","_law_size_here"] ?_ ?_ ?_ ?_ (λ_ _ _ _ _ _ us hl=>by obtain ⟨_,_,_,rfl⟩:=KW.gY hl;rfl)<;>try k_is
  case Cj=>refine' L2.Xa KX G ["_law_script","_law_k"] ?_ ?_ ?_ ?_ (λ_ _ _ _ _ _ us hl=>by obtain ⟨_,_,rfl⟩:=KW.cJ hl;rfl)<;>try k_is
  case Ck=>refine' L2.Xa KX G ["_law_cell","_law_k"] ?_ ?_ ?_ ?_ (λ_ _ _ _ _ _ us hl=>by obtain ⟨_,_,rfl⟩:=KW.cJ hl;rfl)<;>try k_is
  case Cm=>refine' L2.Xa KX G ["_law_cell"] ?_ ?_ ?_ ?_ (λ_ _ _ _ _ _ us hl=>by obtain ⟨_,rfl⟩:=KW.kj hl;rfl)<;>try k_is
  case mO=>refine' L2.Xa KX G ["_law_script","_law_deep","_law_at","_law_name_here"] ?_ ?_ ?_ ?_ (λ_ _ _ _ _ _ us hl=>by obtain ⟨_,_,_,_,rfl⟩:=KW.Bm hl;rfl)<;>try k_is
  case Cp=>refine' L2.Xa KX G ["_law_book","_law_shape_here","_law_want","_law_most"] ?_ ?_ ?_ ?_ (λ_ _ _ _ _ _ us hl=>by obtain ⟨_,_,_,_,rfl⟩:=KW.Bm hl;rfl)<;>try k_is
  case kJ | jB=>refine' L2.Xa KX G ["_law_one","_law_other"] ?_ ?_ ?_ ?_ (λ_ _ _ _ _ _ us hl=>by obtain ⟨_,_,rfl⟩:=KW.cJ hl;rfl)<;>try k_is
  case jg | Cq=>refine' L2.Xa KX G ["_law_value"] ?_ ?_ ?_ ?_ (λ_ _ _ _ _ _ us hl=>by obtain ⟨_,rfl⟩:=KW.kj hl;rfl)<;>try k_is
  case Za=>refine' ⟨?_,?_,?_,?_⟩<;>try k_is
  case Zx | Zy | Zk=>refine' L2.Xn ?_<;>try k_is
  case ZL=>refine' ⟨?_,?_,?_,?_⟩<;>try k_is
  case ZG | ZI | ZT=>refine' L2.Xn ?_<;>try k_is
  case ZH=>refine' ⟨?_,?_,?_,?_⟩<;>try k_is
  case ZJ | Zu=>refine' L2.Xn ?_<;>try k_is
  case Zc=>refine' ⟨?_,?_,?_,?_⟩<;>try k_is
  case Zq | Zt=>refine' L2.Xn ?_<;>try k_is
  case Zb=>refine' ⟨?_,?_,?_,?_⟩<;>try k_is
  case Zp | Zs | Zm=>refine' L2.Xn ?_<;>try k_is
  case Zf=>refine' ⟨?_,?_,?_,?_⟩<;>try k_is
  case ZD | ZF | ZC=>refine' L2.Xn ?_<;>try k_is
  case Zi=>refine' ⟨?_,?_,?_,?_⟩<;>try k_is
  case Zo | Zh=>refine' L2.Xn ?_<;>try k_is
  case Zd=>refine' ⟨?_,?_,?_,?_⟩<;>try k_is
  case ZA | Zr=>refine' L2.Xn ?_<;>try k_is
  case Ze=>refine' ⟨?_,?_,?_,?_⟩<;>try k_is
  case Zv | Zn=>refine' L2.Xn ?_<;>try k_is
  case Z8=>refine' ⟨?_,?_,?_,?_⟩<;>try k_is
  case Zg | ZE | Zz=>refine' L2.Xn ?_<;>try k_is
  case pF =>
   refine' L2.Tp KX G ?a ?l ?z ?r;(case a=>k_is);(case l=>k_is);(case z=>decide);(case r=>exact (.cons ⟨_,rfl⟩ (.cons ⟨_,rfl⟩ (.cons ⟨_,rfl⟩ .nil))))
  case cj | fj | mj | gC | Zw | au | aP | gA | cu | Zj | iQ | cg=>refine' PySem.W.mg_none_of KX G ?_<;>try k_is
