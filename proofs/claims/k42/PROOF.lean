import PyProof.Rows.All
import Wide.All
import OpenK.AllK
import Wide.FinOn
import Lean
import PyProof.EqAt
import PyProof.EqKinds
import PyProof.TupleCall
import PyProof.NeData
import KE.KTryMore
import PyProof.ExcBaseAll.ValueError
import PyProof.ExcArgsOwn
import KE.KIntText
import PyProof.Rows.SetFrom
import PyProof.SetRoads
import PyProof.StrWalks
import PyProof.ListStr
import PyProof.Rows.StrSplitCount
import PyProof.MeetsStr
import PyProof.MeetsStr2
import PyProof.StrOps2
import KE.KTryOn
import OpenK.KMake
import PyProof.ReprRoads
import PyProof.ReprLen
import PyProof.StrLawsRepr
import PyProof.CallFns
import KE.KSortTup
import PyProof.StrCalls6
import PyProof.MeetsStr3
import PyProof.CollectIter
import KE.KDictOf
import PyProof.AttrMissHeap
import PySem.Challenge.RW_countgen_k42_sieved
set_option compiler.extract_closed false
open PySem renaming Value→Α,PyData→Γ,Shared→Ζ,wpAny_bind→Ι,wpAny_pure→Ρ,wpAny→Χ,model→Ω,Program→δ,starEach→η,World→ι,Around→ag,mainGlobals→az,wpAny_mono→a5,mem_of_lookup→bj,wpAny_newObj_type→bp,FuncData→bt,backTo→b8,Scope→ci,compEnvC→df,binaryOp→di,compareOp→dE,cellsFrom→ef,bootBuiltins→eh,wpAny_Call_Name_kw→ej,wpAny_passesOwn→et,getItem→fq,sysModules→ft,letOwnedTupleGo→fw,bindArgs→fN,NameKind→gi,builtinsNs→gm,wpAny_call_entry→gs,attributeBase→gu,codeAny→gv,cLine→ia,assignEach→ib,foldedSetIterable→ii,wpAny_field→ik,keywordEach→il,wpAny_execs_cons→ip,wpAny_specialOf→iN,wpAny_execs_nil→iO,getMethod→i8,wpAny_holding→i9,behindInMarks→ja,sliceRange→jj,backToKw→js,wpAny_typeOf→jv,codeAny_mono→jI
open List renaming length_map→Β,getElem?_eq_getElem→Ε,getElem?_eq_some_iff→Η,getElem?_map→Λ,length_append→Μ,mem_cons→Ν,mem_of_getElem?→Ξ,lookup_cons→Υ,mem_singleton→Φ,range→ζ,not_mem_nil→ς,mem_append_right→υ,map_cons→χ,size_toArray→ψ,length_cons→ω,mem_map→ac,getD_eq_getElem?_getD→ah,take_of_length_le→am,getElem?_append_left→av,length_take→aw,getElem?_append_right→ax,Nodup→ay,length_singleton→aE,nodup_cons→aI,getElem?_range→aS,length_range→a4,mem_append→a6,find?_cons→a7,append_nil→a8,map_congr_left→a9,mem_range→bb,map_append→bc,mem_flatMap→be,length_replicate→bn,map_map→bo,take_length→bz,mem_cons_of_mem→bE,drop_eq_nil_of_le→bS,mem_map_of_mem→bX,length_reverse→b7,cons→ck,append_assoc→cE,lookup→c6,getElem?_zip_eq_some→db,range_succ→dn,find?_eq_some_iff_getElem→dC,idxOf_lt_length_of_mem→em,sum_cons→eC,flatMap_cons→eK,take_zero→eS,replicate→eW,map_nil→fb,getElem?_replicate→fk,filterMap_append→gh,mem_append_left→gt,take_succ_cons→gy,filterMap_cons→gz,of_mem_zip→gI,mem_cons_self→g7,filterMap_map→g9,nodup_append→ij,mem_reverse→iq,length_drop→ir,filter_cons→ix,nil_append→iS,length_nil→iX,length→i7
open Option.some renaming inj→Δ
open PySem.W renaming Frag→Θ,fnOf→c8,kia_one→eP,keepIn→eQ,callWith_K→fF,findIn→fS,emptyDict→f7,tabObj→gg,instObj→gN,codeIn→ie,CodeHd→i5,mg_of→jb,nsIn→jS
open Nat renaming le_refl→Κ,le_trans→Τ,zero_le→ν,lt_of_lt_of_le→ξ,ne_of_lt→ο,succ_le_succ→cq,add_sub_cancel→cw,lt_irrefl→cz,add_le_add→da,div_le_self→dm,mul_le_mul_right→dA,le_succ→d5,pow_le_pow_right→eM,sub_self→gc,le_of_lt→ge,lt_of_le_of_lt→gV,add_assoc→io,succ_mul→iL,min_eq_left→iP,not_lt→jn,zero_max→j0,max_zero→ka,le_of_eq→kb
open PySem.Heap renaming get?_push_of_some→Ο,lt_size→Ψ,get?_push_size→af,SameBut→bP,size_push→i6
open Option renaming map_eq_some_iff→ε,map_some→ez
open PySem.PyData renaming depthAll→θ,depth→aa,strOk→bu,eqv→dk,canLayAll0→eJ,canLay0→eR,eqvAll→im
open PySem.NameKind renaming free→ρ,cell→c9
open Bool renaming false_ne_true→τ,false_eq_true→ek,eq_false_iff→eL,and_eq_true→fc,eq_iff_iff→i3
open PySem.Value renaming ref→ae,none→ic,str→iE,int→km,bool→kq
open Ne renaming symm→ai
open PySem.PassesOwn renaming never→ar
open PySem.Builtin.Slice renaming slicePlaces→ba,sliceAdjust→ce,sliceApplied→eI
open PySem.Builtin.Tuple renaming tupleExact→bg,tupleHashOf→ca
open Int renaming toNat_natCast→br,natCast_add→eA,emod_nonneg→eB,eq_ofNat_of_zero_le→fo,natCast_mul→fE,natCast_nonneg→fI,ediv_one→gS,lt_or_eq_of_le→hV,emod_lt_of_pos→hW,zero_add→ke,mul_zero→kg,toNat→kn
open PySem.Builtin.Str renaming strSliceIndices→bv
open False renaming elim→b9
open PySem.PyData.tuple renaming injEq→cr
open List.cons renaming injEq→cK
open PyProof.Rows renaming callWith_type1→cS,slot_tuple_getitem→de,AllBare→iA,envOfC→iF,slicePart_none→i4
open ForInStep renaming yield→dq
open PySem.F renaming plainAttrs_list→dQ,type_list_append→fg,slot_list_append→fh
open PySem.Builtin.Range renaming rangeSize→dS
open True renaming intro→d3
open PySem.Str renaming ofString→ei,length→kr
open Sum renaming inr→f8,inl→jp
open Array renaming length_toList→gE
open PySem.Code renaming isFrame→ki
open PySem.Around renaming under→kl
set_option Elab.async false
set_option linter.all false
set_option maxRecDepth 100000
namespace L2
open PySem PySem.Spec PyProof.Rows
abbrev Key:=Sum Int Str
def Um:Key->Α->Bool
 | .inl k,v=>Value.isInt k v
 | .inr x,v=>Value.isStrOf x v
def Rb (w:ι):Key->Int
 | .inl k=>hashInt k
 | .inr x=>hashStr w x
theorem Xi:∀ {k:Key} {v:Α},Um k v=true->(∃ i t,k=jp i/\v=km i t)\/(∃ x t,k=f8 x/\v=iE x t)
 | .inl i,v,h=>by
  obtain ⟨t,e⟩:=Value.isInt_shape (k:=i) (v:=v) h;exact .inl ⟨i,t,rfl,e⟩
 | .inr x,v,h=>by
  obtain ⟨t,e⟩:=Value.isStrOf_shape (x:=x) (v:=v) h;exact .inr ⟨x,t,rfl,e⟩
theorem Sv (i:Int) (t:Tok):Um (.inl i) (.int i t)=true:=by simp [Um,Value.isInt]
theorem Sx (x:Str) (t:Tok):Um (.inr x) (.str x t)=true:=by simp [Um,Value.isStrOf]
theorem Sy (a b:Int):decide ((jp a:Key)=jp b)=(a==b):=by
 by_cases e:a=b
 ·subst e;simp
 ·have h:¬ (jp a:Key)=jp b:=λq=>e (Sum.inl.inj q)
  rw [decide_eq_false h];exact (beq_eq_false_iff_ne.mpr e).symm
theorem SJ (a b:Str):decide ((f8 a:Key)=f8 b)=decide (a=b):=by
 by_cases e:a=b
 ·subst e;simp
 ·have h:¬ (f8 a:Key)=f8 b:=λq=>e (Sum.inr.inj q)
  rw [decide_eq_false h,decide_eq_false e]
theorem SM (a:Int) (b:Str):decide ((jp a:Key)=f8 b)=false:=decide_eq_false (λq=>nomatch q)
theorem SN (a:Str) (b:Int):decide ((f8 a:Key)=jp b)=false:=decide_eq_false (λq=>nomatch q)
def Y1 (prog:δ) (w:ι):PySem.KeyKind prog w Key where
 is:=Um
 hash:=Rb w
 inj:=λv a b ha hb=>by
  rcases Xi ha with ⟨i,t,rfl,rfl⟩ | ⟨x,t,rfl,rfl⟩
  ·rcases Xi hb with ⟨j,u,rfl,e⟩ | ⟨y,u,rfl,e⟩
   ·injection e with e1 _;rw [e1]
   ·exact nomatch e
  ·rcases Xi hb with ⟨j,u,rfl,e⟩ | ⟨y,u,rfl,e⟩
   ·exact nomatch e
   ·injection e with e1 _;rw [e1]
 byValue:=λk v h=>by
  rcases Xi h with ⟨i,t,rfl,rfl⟩ | ⟨x,t,rfl,rfl⟩<;>rfl
 pyHash:=λhv h=>by
  rcases Xi hv with ⟨i,t,rfl,rfl⟩ | ⟨x,t,rfl,rfl⟩
  ·exact wpAny_pyHash_int h
  ·exact wpAny_pyHash_str h
 eqBool:=λhu hv h=>by
  rcases Xi hu with ⟨i,t,rfl,rfl⟩ | ⟨x,t,rfl,rfl⟩
  ·rcases Xi hv with ⟨j,u,rfl,rfl⟩ | ⟨y,u,rfl,rfl⟩
   ·rw [Sy] at h;exact wpAny_eqBool_int h
   ·rw [SM] at h;exact SeqAt.EqAt.int_str i t y u _ _ _ _ h
  ·rcases Xi hv with ⟨j,u,rfl,rfl⟩ | ⟨y,u,rfl,rfl⟩
   ·rw [SN] at h;exact SeqAt.EqAt.str_int x t j u _ _ _ _ h
   ·rw [SJ] at h;exact wpAny_eqBool_str h
 «strs»:=λk x t v h=>by
  rcases Xi h with ⟨i,u,rfl,e⟩ | ⟨y,u,rfl,e⟩
  ·exact nomatch e
  ·injection e with e1 _
   subst e1
   cases v<;>rfl
theorem SQ (prog:δ) (w:ι) (i:Int) (t:Tok):(Y1 prog w).is (.inl i) (.int i t)=true:=Sv i t
theorem UH (prog:δ) (w:ι) (x:Str) (t:Tok):(Y1 prog w).is (.inr x) (.str x t)=true:=Sx x t
inductive V where
 | non | bl (b:Bool) | int (i:Int) | str (x:Str) | gw (b:Array UInt8) | flt (b:UInt64) | ref (a:Addr) | ty (n:String)
 deriving DecidableEq
def YB:V->Α->Prop
 | .non,u=>u=ic
 | .bl b,u=>u=kq b
 | .int i,u=>∃ t,u=km i t
 | .str x,u=>∃ t,u=iE x t
 | .gw b,u=>∃ t,u=Value.bytes b t
 | .flt b,u=>∃ t,u=Value.float b t
 | .ref a,u=>u=ae a
 | .ty n,u=>u=Value.type n
abbrev Yt:List V->List Α->Prop:=Paired YB
theorem Yt.length {xs:List V} {us:List Α} (r:Yt xs us):xs.length=us.length:=Paired.length r
theorem Yt.get:∀ {xs:List V} {us:List Α} {i:Nat} {x:V},Yt xs us->xs[i]?=some x->∃ u,us[i]?=some u/\YB x u
 | _,_,_,_,.nil,e=>by simp at e
 | _,_,0,_,.cons r _,e=>by simp at e;subst e;exact ⟨_,rfl,r⟩
 | _,_,i+1,x,.cons _ t,e=>by
  obtain ⟨u,h1,h2⟩:=Yt.get (i:=i) (x:=x) t (by simpa using e);exact ⟨u,by simpa using h1,h2⟩
theorem Yt.append:∀ {xs ys:List V} {us ws:List Α},Yt xs us->Yt ys ws->Yt (xs++ys) (us++ws)
 | _,_,_,_,.nil,s=>s
 | _,_,_,_,.cons r t,s => .cons r (Yt.append t s)
theorem Yt.take:∀ {xs:List V} {us:List Α} (n:Nat),Yt xs us->Yt (xs.take n) (us.take n)
 | _,_,0,_ => .nil
 | _,_,_+1,.nil => .nil
 | _,_,n+1,.cons r t => .cons r (Yt.take n t)
theorem Yt.drop:∀ {xs:List V} {us:List Α} (n:Nat),Yt xs us->Yt (xs.drop n) (us.drop n)
 | _,_,0,r=>r
 | _,_,_+1,.nil => .nil
 | _,_,n+1,.cons _ t=>Yt.drop n t
def Wd:Option V->Option Α->Prop
 | some v,some u=>YB v u
 | none,none=>True
 | _,_=>False
def KV {κ:Type}:List (κ×V)->List (κ×Α)->Prop:=Paired λ(p:κ×V) (q:κ×Α)=>p.1=q.1/\YB p.2 q.2
def kV:Key->V
 | .inl i => .int i
 | .inr x => .str x
inductive HO where
 /-- a list -/
 | lst (xs:List V)
 /-- a tuple (never changes) -/
 | tup (xs:List V)
 /-- a dict whose keys are ints and texts;one whose keys are tuples of ints and texts (the empty one is both) -/
 | dK (kvs:List (Key×V)) | dT (kvs:List (List Key×V))
 /-- a set of ints: its members,its size -/
 | set (S:Int->Bool) (n:Nat)
 /-- an instance of the class at C,its dict at dx,its attributes -/
 | ins (C dx:Addr) (fs:List (Str×V))
 /-- the dict of the instance at x -/
 | own (x:Addr)
 /-- the dict of an exception -/
 | xd (fs:List (Str×V))
 /-- a bound method,f of x -/
 | met (f x:Addr)
 /-- a range object lo,lo+1,.. below hi -/
 | rng (lo hi:Int)
 /-- a thing that is known to the object (the script;a dict while a loop walks it): read,never written while it is so -/
 | eH (o:Obj) (u:HO)
 /-- a code object's table -/
 | bD (ps:Array Α)
 /-- any other thing,by what is true of its one object (a def of one's own: Rc a S n:=HO.ext λh => ..) -/
 | ext (φ:Heap->Prop)
abbrev Hp:=Addr->Option HO
def upd (H:Hp) (a:Addr) (o:HO):Hp:=λb=>if b=a then some o else H b
theorem Yb {H:Hp} {a:Addr} {o:HO}:upd H a o a=some o:=by unfold upd;rw [if_pos rfl]
theorem Ye {H:Hp} {a b:Addr} {o:HO} (h:b≠a):upd H a o b=H b:=by unfold upd;rw [if_neg h]
theorem Y8 {H:Hp} {a b:Addr} {o u:HO} (h:H a=some o) (h':H b=some u) (d:o≠u):a≠b:=by
 intro e;subst e;rw [h] at h';exact d (Δ h')
theorem Yl {H:Hp} {a b:Addr} {o:HO} (h:H a=some o) (h':H b=none):a≠b:=by
 intro e;subst e;rw [h] at h';cases h'
section
variable (P:δ) (w:ι)
def YN (H:Hp) (h:Heap) (a:Addr):HO->Prop
 | .lst xs=>xs.length<=sizeLine/\∃ (its:List Α) (n:Nat),Yt xs its/\h.get? a=some { cls := .type "list",data := .seq its.toArray n }
 | .tup xs=>xs.length<=sizeLine/\∃ its:List Α,Yt xs its/\IsTup h a its.toArray
 | .dK kvs=>kvs.length<=sizeLine/\(a==ft)=false/\∃ vs,KV kvs vs/\h.DictOf (Y1 P w) a vs
 | .dT kvs=>kvs.length<=sizeLine/\(a==ft)=false/\∃ xs:List (List Key×Addr×Α),
   Paired (λ(p:List Key×V) (q:List Key×Addr×Α)=>p.1=q.1/\H q.2.1=some (.tup (p.1.map kV))/\YB p.2 q.2.2) kvs xs /\
   ∃ o es ep,h.get? a=some o/\o.ExactDict/\o.data = .dict es ep/\es.toList=xs.map (entryOfKey (tupleKind (Y1 P w)))/\(xs.map (·.1)).Nodup
 | .set S n=>h.SetOf (intKind P w) a S n
 | .ins C dx fs=>H dx=some (.own a)/\fs.length<=1000/\dx≠a/\h.get? a=some (gN C dx) /\
   ∃ mA,h.Ns1 dx mA/\(∀ f,Wd (fs.lookup f) (mA f))/\PySem.Within mA (fs.map (·.1))
 | .own _=>∃ o,h.get? a=some o
 | .xd fs=>∃ mA,h.Ns1 a mA/\∀ f,Wd (fs.lookup f) (mA f)
 | .rng lo hi=>∃ t u v,h.get? a=some { cls := .type "range",data := .fields #[.int lo t,.int hi u,.int 1 v] }
 | .eH o u=>h.get? a=some o/\YN H h a u
 | .bD ps=>h.get? a=some { cls := .none,data := .fields ps }
 | .met f x=>h.get? a=some (W.methodObj (.ref f) (.ref x))
 | .ext φ=>φ h/\(∃ o,h.get? a=some o)/\∀ h1 h2:Heap,φ h1->(∀ o,h1.get? a=some o->h2.get? a=some o)->φ h2
def bB (H:Hp) (h:Heap):Prop:=∀ a o,H a=some o->YN P w H h a o
end
section
variable {P:δ} {w:ι} {H H':Hp} {h h':Heap} {a:Addr} {o:HO}
theorem YN.lt (x:YN P w H h a o):a<h.objs.size:=by
 cases o with
 | lst xs=>obtain ⟨_,_,_,_,e⟩:=x;exact Ψ e
 | tup xs=>obtain ⟨_,_,_,p⟩:=x;exact p.lt
 | dK kvs=>obtain ⟨_,_,_,_,o,_,_,e,_⟩:=x;exact Ψ e
 | dT kvs=>obtain ⟨_,_,_,_,o,_,_,e,_⟩:=x;exact Ψ e
 | set S n=>obtain ⟨o,_,_,_,e,_⟩:=x;exact Ψ e
 | ins C dx fs=>obtain ⟨_,_,_,e,_⟩:=x;exact Ψ e
 | own y=>obtain ⟨_,e⟩:=x;exact Ψ e
 | xd fs=>obtain ⟨_,⟨_,_,_,e,_⟩,_⟩:=x;exact Ψ e
 | rng lo hi=>obtain ⟨_,_,_,e⟩:=x;exact Ψ e
 | eH ob u=>obtain ⟨e,_⟩:=x;exact Ψ e
 | bD ps=>exact Ψ (show h.get? a=some _ from x)
 | met f y=>exact Ψ (show h.get? a=some _ from x)
 | ext φ=>obtain ⟨_,⟨_,e⟩,_⟩:=x;exact Ψ e
theorem Paired.wI {α β:Type} {F G:α->β->Prop}:∀ {l₁:List α} {l₂:List β},Paired F l₁ l₂->(∀ a b,F a b->G a b)->Paired G l₁ l₂
 | _,_,.nil,_ => .nil
 | _,_,.cons r t,f => .cons (f _ _ r) (Paired.wI t f)
theorem YN.stay (x:YN P w H h a o) (k:∀ b u,(b=a\/H b=some (.own a))->h.get? b=some u->h'.get? b=some u)
  (ho:∀ b,H b=some (.own a)->H' b=some (.own a)) (ht:∀ b xs,H b=some (.tup xs)->H' b=some (.tup xs)):YN P w H' h' a o:=by
 induction o with
 | lst xs=>obtain ⟨z,its,n,r,e⟩:=x;exact ⟨z,its,n,r,k _ _ (.inl rfl) e⟩
 | tup xs=>obtain ⟨z,its,r,ob,e,c⟩:=x;exact ⟨z,its,r,ob,k _ _ (.inl rfl) e,c⟩
 | dK kvs=>obtain ⟨z,y,vs,r,ob,es,ep,e,c⟩:=x;exact ⟨z,y,vs,r,ob,es,ep,k _ _ (.inl rfl) e,c⟩
 | dT kvs =>
  obtain ⟨z,y,xs,r,ob,es,ep,e,c⟩:=x;exact ⟨z,y,xs,Paired.wI r λp q z=>⟨z.1,ht _ _ z.2.1,z.2.2⟩,ob,es,ep,k _ _ (.inl rfl) e,c⟩
 | set S n=>obtain ⟨ob,es,ep,t,e,c⟩:=x;exact ⟨ob,es,ep,t,k _ _ (.inl rfl) e,c⟩
 | ins C dx fs =>
  obtain ⟨d,z,ne,e,mA,⟨od,es,ep,e2,c⟩,r⟩:=x;exact ⟨ho _ d,z,ne,k _ _ (.inl rfl) e,mA,⟨od,es,ep,k _ _ (.inr d) e2,c⟩,r⟩
 | own y=>obtain ⟨ob,e⟩:=x;exact ⟨ob,k _ _ (.inl rfl) e⟩
 | xd fs=>obtain ⟨mA,⟨od,es,ep,e,c⟩,r⟩:=x;exact ⟨mA,⟨od,es,ep,k _ _ (.inl rfl) e,c⟩,r⟩
 | rng lo hi=>obtain ⟨t,u,v,e⟩:=x;exact ⟨t,u,v,k _ _ (.inl rfl) e⟩
 | eH ob u ih=>obtain ⟨e,q⟩:=x;exact ⟨k _ _ (.inl rfl) e,ih q⟩
 | bD ps =>
  have e:h.get? a=some { cls := .none,data := .fields ps }:=x
  show h'.get? a=some { cls := .none,data := .fields ps }
  exact k a _ (.inl rfl) e
 | met f y =>
  have e:h.get? a=some (W.methodObj (.ref f) (.ref y)):=x
  show h'.get? a=some (W.methodObj (.ref f) (.ref y))
  exact k a _ (.inl rfl) e
 | ext φ=>obtain ⟨p,⟨o,e⟩,st⟩:=x;exact ⟨st _ _ p λo q=>k _ _ (.inl rfl) q,⟨o,k _ _ (.inl rfl) e⟩,st⟩
theorem bB.lt (x:bB P w H h) (e:H a=some o):a<h.objs.size:=(x a o e).lt
theorem bB.fresh (x:bB P w H h) (e:h.objs.size<=a):H a=none:=by
 cases q:H a with
 | none=>rfl
 | some u=>exact absurd (ξ (x.lt q) e) (cz _)
theorem bB.kept (x:bB P w H h) (k:∀ b u,h.get? b=some u->h'.get? b=some u):bB P w H h':=λa o e =>
 (x a o e).stay (λb u _ q=>k b u q) (λ_ q=>q) λ_ _ q=>q
theorem bB.laid (x:bB P w H h) (k:∀ b u,h.get? b=some u->h'.get? b=some u) (hp:h.objs.size<=a) (new:YN P w (upd H a o) h' a o):bB P w (upd H a o) h':=λb u e=>by
 have hn:=x.fresh hp;by_cases hb:b=a
 ·subst hb;rw [Yb] at e;cases e;exact new
 ·rw [Ye hb] at e
  exact (x b u e).stay (λc v _ q=>k c v q) (λc q=>by rw [Ye (Yl q hn)];exact q) λc xs q=>by rw [Ye (Yl q hn)];exact q
end
def Rd (H:Hp) (a:Addr) (u:HO):Prop:=H a=some u\/∃ o,H a=some (.eH o u)
theorem Rd.ok {P:δ} {w:ι} {H:Hp} {h:Heap} {a:Addr} {u:HO} (r:Rd H a u) (x:bB P w H h):YN P w H h a u:=by
 rcases r with r | ⟨o,r⟩
 ·exact x a u r
 ·obtain ⟨_,q⟩:=x a _ r
  exact q
def pW:Option HO->Prop
 | some (.lst _)=>True
 | some (.dK _)=>True
 | some (.dT _)=>True
 | some (.set _ _)=>True
 | some (.ins _ _ _)=>True
 | some (.ext _)=>True
 | _=>False
section
variable {P:δ} {w:ι} {H:Hp} {h h':Heap} {x e:Addr} {o':HO}
theorem bB.write (ok:bB P w H h) (mu:pW (H x)) (he:e=x\/H e=some (.own x)) (k:∀ b u,b≠e->h.get? b=some u->h'.get? b=some u) (heo:∃ u,h'.get? e=some u)
  (new:YN P w (upd H x o') h' x o'):bB P w (upd H x o') h':=λb u q=>by
 have wJ:∀ c y,H c=some (.own y)->c≠x:=λc y r z=>by subst z;rw [r] at mu;exact mu
 have Rf:∀ c xs,H c=some (.tup xs)->c≠x:=λc xs r z=>by subst z;rw [r] at mu;exact mu
 by_cases hb:b=x
 ·subst hb;rw [Yb] at q;cases q;exact new
 ·rw [Ye hb] at q
  by_cases hbe:b=e
  ·have q':H b=some (.own x):=by
    rcases he with z | z
    ·exact absurd (hbe.trans z) hb
    ·rw [hbe];exact z
   rw [q] at q';cases q'
   obtain ⟨v,hv⟩:=heo;exact ⟨v,by rw [hbe];exact hv⟩
  ·refine (ok b u q).stay (λc v hc r=>k c v ?_ r) (λc r=>by rw [Ye (wJ c b r)];exact r) λc xs r=>by rw [Ye (Rf c xs r)];exact r
   rcases hc with rfl | hc
   ·exact hbe
   ·rintro rfl
    rcases he with z | z
    ·exact wJ c b hc z
    ·rw [hc] at z;cases z;exact hb rfl
end
structure Un (fs ex:List Addr) (H H':Hp) (h h':Heap):Prop where
 keep:∀ b o,h.get? b=some o->H b=none->b∉fs->b∉ex->h'.get? b=some o
 slot:∀ b o,h.get? b=some o->H b=none->b∈fs->b∉ex->∃ sl,h'.get? b=some { o with slots:=sl }
 free:∀ b o,h.get? b=some o->H b=none->b∉ex->H' b=none
 there:∀ b o,h.get? b=some o->b∉ex->∃ o',h'.get? b=some o'
 tups:∀ b xs,H b=some (.tup xs)->H' b=some (.tup xs)
 dB:∀ b o u,H b=some (.eH o u)->H' b=some (.eH o u)
 dF:∀ b ps,H b=some (.bD ps)->∃ more,H' b=some (.bD (ps++more))
section
variable {fs fs' ex ex':List Addr} {H H1 H2:Hp} {h h1 h2 h':Heap} {a x e:Addr} {o:HO}
theorem Un.any (u:Un fs ex H H1 h h1) {b:Addr} {ob:Obj} (q:h.get? b=some ob) (n:H b=none) (hx:b∉ex):∃ sl,h1.get? b=some { ob with slots:=sl }:=by
 by_cases hb:b∈fs
 ·exact u.slot b ob q n hb hx
 ·exact ⟨ob.slots,u.keep b ob q n hb hx⟩
theorem Un.kept (k:∀ b u,h.get? b=some u->h'.get? b=some u):Un fs ex H H h h' :=
 ⟨λb ob q _ _ _=>k b ob q,λb ob q _ _ _=>⟨ob.slots,k b ob q⟩,λ_ _ _ n _=>n,λb ob q _=>⟨ob,k b ob q⟩,λ_ _ q=>q,λ_ _ _ q=>q,λ_ ps q=>⟨#[],by rw [q];simp⟩⟩
theorem Un.refl:Un fs ex H H h h:=Un.kept λ_ _ q=>q
theorem Un.laid (k:∀ b u,h.get? b=some u->h'.get? b=some u) (hp:h.objs.size<=a) (hn:H a=none):Un fs ex H (upd H a o) h h' where
 keep:=λb u q _ _ _=>k b u q
 slot:=λb u q _ _ _=>⟨u.slots,k b u q⟩
 free:=λb u q n _=>by rw [Ye (ο (ξ (Ψ q) hp))];exact n
 there:=λb u q _=>⟨u,k b u q⟩
 tups:=λb xs q=>by rw [Ye (Yl q hn)];exact q
 dB:=λb u xs q=>by rw [Ye (Yl q hn)];exact q
 dF:=λb ps q=>⟨#[],by rw [Ye (Yl q hn),q];simp⟩
theorem Un.write (mu:pW (H x)) (he:e=x\/H e=some (.own x)) (k:∀ b u,b≠e->h.get? b=some u->h'.get? b=some u) (heo:∃ u,h'.get? e=some u):Un fs ex H (upd H x o) h h':=by
 have hx:∀ b,H b=none->b≠x:=λb n z=>by subst z;rw [n] at mu;exact mu
 have hb:∀ b,H b=none->b≠e:=λb n z=>by
  subst z;rcases he with r | r
  ·exact hx b n r
  ·rw [n] at r;cases r
 have hm:∀ b u,H b=some u->¬ pW (some u)->b≠x:=λb u q nm z=>by subst z;rw [q] at mu;exact nm mu
 refine ⟨λb u q n _ _=>k b u (hb b n) q,λb u q n _ _=>⟨u.slots,k b u (hb b n) q⟩,λb u q n _=>by rw [Ye (hx b n)];exact n,λb u q _=>?_,
  λb xs q=>by rw [Ye (hm b _ q λz=>z)];exact q,λb u xs q=>by rw [Ye (hm b _ q λz=>z)];exact q,λb ps q=>⟨#[],by rw [Ye (hm b _ q λz=>z),q];simp⟩⟩
 by_cases hbe:b=e
 ·subst hbe;exact heo
 ·exact ⟨u,k b u hbe q⟩
end
def uy (h:Heap) (H:Hp):List Addr:=(ζ h.objs.size).filter λa=>(H a).isSome
def W2 (h:Heap) (H:Hp):Heap:=W.hideAll h (uy h H)
theorem SX (h:Heap) (H:Hp):(W2 h H).objs.size=h.objs.size:=W.hideAll_size _ _
theorem S5 {h:Heap} {H:Hp} {b:Addr} {o:Obj} (e:h.get? b=some o) (n:H b=none):(W2 h H).get? b=some o :=
 W.hideAll_get _ e λhm=>by
  have q:(H b).isSome=true:=(List.mem_filter.mp hm).2;rw [n] at q;simp at q
theorem S6 {h:Heap} {H:Hp} {b:Addr} {o:Obj} (e:(W2 h H).get? b=some o):h.get? b=some o/\H b=none:=by
 have e':h.get? b=some o:=W.of_hideAll (uy h H) e;refine ⟨e',?_⟩
 cases q:H b with
 | none=>rfl
 | some x =>
  have hm:b∈uy h H:=List.mem_filter.mpr ⟨bb.mpr (Ψ e'),by simp [q]⟩;have z:(W2 h H).get? b=none:=W.hideAll_none (uy h H) hm;rw [z] at e;cases e
def S7 (g h:Heap) (L:Addr):List (Addr×Obj):=(ζ h.objs.size).filterMap λa=>if a=L\/(g.get? a).isSome=true then none else (h.get? a).map λo=>(a,o)
def YG (g h:Heap) (L d:Addr):List (Addr×Obj):=(S7 g h L).filter λp=>decide (p.1≠d)
structure Mod (K:Θ) (mg:Str->Option Α) (base:Heap):Prop where
 jK:K.In base
 glob:base.Ns az mg
 blt:∃ mb,base.Ns gm mb/\∀ x:Str,x≠"__name__"->mb x=eh x
 nolimit:base.NoLimit
structure Cx where
 prog:δ
 w:ι
 K:Θ
 mg:Str->Option Α
 base:Heap
 A:ag
 N:List Str
 s₀:Ζ
 H₀:Hp
 env:Env
 outer:List Env
 stack:List Env
 ex:List Addr
 fn:Str->Bool
 calm:Bool
 pn:List (Addr×Obj)
 xe:Α->Ζ->Prop
def frs (l:List Env):List Addr:=l.filterMap (·.frame)
abbrev Cx.fs (X:Cx):List Addr:=frs X.outer
def pX (sc:ci) (x:Str):Prop:=sc.names.lookup x=some .local\/sc.names.lookup x=some .cell\/sc.names.lookup x=some .free
def Loc (sc:ci) (x:Str):Prop:=sc.names.lookup x=some .local\/sc.names.lookup x=some .cell
def Look (env:Env) (h:Heap) (m:Str->Option Α) (x:Str) (u:Α):Prop :=
 (env.kindOf x=some .local/\m x=some u)\/((env.kindOf x=some .cell\/env.kindOf x=some .free)/\∃ c,env.cells.lookup x=some c/\h.IsCell c (some u))
structure Cx.Ok (X:Cx):Prop where
 mod:Mod X.K X.mg X.base
 kind:X.env.scope.kind = .function
 glob:X.env.globals=az
 blt:X.env.builtins=gm
 above:X.s₀.heap.objs.size<=X.env.locals
 inj:∀ x y c,X.env.cells.lookup x=some c->X.env.cells.lookup y=some c->x=y
 has:∀ x,(X.env.kindOf x=some .cell\/X.env.kindOf x=some .free)->∃ c,X.env.cells.lookup x=some c
 cab:∀ x c,X.fn x=true->X.env.cells.lookup x=some c->X.s₀.heap.objs.size<=c
 hd:X.calm=true->X.A.handled=none
 frames:X.A.frames=some X.stack
 stk:X.stack=X.outer\/(X.stack=X.env::X.outer/\X.env.frame=some X.env.locals)
 Fl:∀ b∈X.ex,b≠X.env.locals/\∀ x c,X.env.cells.lookup x=some c->c≠b
 bs:∀ b o,X.base.get? b=some o->X.s₀.heap.get? b=some o/\X.H₀ b=none
 gA:X.base.objs.size<=X.s₀.heap.objs.size
 jE:∀ b o,X.base.get? b=some o->b∉X.ex
 oG:∀ b∈X.ex,b∉X.fs
 dG:X.s₀.heap.FunFrames X.base X.outer
 iZ:∀ b∈X.fs,X.H₀ b=none
structure Inv (X:Cx) (pins:List (Addr×Obj)) (σ:List (Option V)) (H:Hp) (s:Ζ):Prop where
 ok:X.Ok
 os:s.os=X.s₀.os
 bare:iA s.gens
 base:Un X.fs X.ex X.H₀ H X.s₀.heap s.heap
 loc:∃ m,s.heap.Ns X.env.locals m/\∀ (i:Nat) (x:Str) (v:V),X.N[i]?=some x->σ[i]?=some (some v)->pX X.env.scope x->∃ u,YB v u/\Look X.env s.heap m x u
 cell:∀ x c,X.env.cells.lookup x=some c->∃ v,s.heap.IsCell c v
 free:H X.env.locals=none
 bK:∀ x c,X.env.cells.lookup x=some c->H c=none
 pin:∀ p∈X.pn++pins,s.heap.get? p.1=some p.2/\H p.1=none/\p.1≠X.env.locals/\p.1∉X.fs/\∀ v,p.2.data ≠ .cell v
 hok:bB X.prog X.w H s.heap
 len:σ.length=X.N.length
section
variable {X:Cx} {pins:List (Addr×Obj)} {σ:List (Option V)} {H H':Hp} {s:Ζ} {h':Heap}
theorem Cx.Ok.Rg (ok:X.Ok) {b:Addr} {o:Obj} (e:X.base.get? b=some o):b∉X.fs:=λhb=>by
 have:=(ok.dG.mem hb).1;rw [e] at this;cases this
theorem Inv.bs (I:Inv X pins σ H s):∀ b o,X.base.get? b=some o->s.heap.get? b=some o/\H b=none:=λb o e =>
 ⟨I.base.keep b o (I.ok.bs b o e).1 (I.ok.bs b o e).2 (I.ok.Rg e) (I.ok.jE b o e),I.base.free b o (I.ok.bs b o e).1 (I.ok.bs b o e).2 (I.ok.jE b o e)⟩
theorem Inv.bk (I:Inv X pins σ H s):∀ b o,X.base.get? b=some o->s.heap.get? b=some o:=λb o e=>(I.bs b o e).1
theorem Inv.mod (I:Inv X pins σ H s):Mod X.K X.mg X.base:=I.ok.mod
theorem Inv.bL (I:Inv X pins σ H s):X.K.In s.heap:=I.ok.mod.jK.keeps I.bk
theorem Inv.lt (I:Inv X pins σ H s):X.env.locals<s.heap.objs.size:=let ⟨_,hn,_⟩:=I.loc;hn.lt
theorem Inv.sz (I:Inv X pins σ H s):X.s₀.heap.objs.size<=s.heap.objs.size:=Τ I.ok.above (ge I.lt)
theorem Inv.Rh (I:Inv X pins σ H s) {a:Addr} (h:s.heap.objs.size<=a):a∉X.fs:=λhb=>by
 obtain ⟨_,o,ho,_⟩:=I.ok.dG.mem hb;exact absurd (ξ (Ψ ho) (Τ I.sz h)) (cz _)
theorem Inv.kE (I:Inv X pins σ H s):∀ x c,X.env.cells.lookup x=some c->c≠X.env.locals:=λx c e z=>by
 obtain ⟨v,o,ho,hd⟩:=I.cell x c e;obtain ⟨m,⟨o',es,ep,ho',hd',_⟩,_⟩:=I.loc;rw [z,ho'] at ho;cases ho;rw [hd'] at hd;cases hd
theorem Inv.dG (I:Inv X pins σ H s):s.heap.FunFrames X.base X.outer:=by
 have all:∀ (l:List Env),(∀ b∈frs l,b∈X.fs)->X.s₀.heap.FunFrames X.base l->s.heap.FunFrames X.base l:=by
  intro l
  induction l with
  | nil=>intro _ _;trivial
  | cons env r ih =>
   intro hs hl;obtain ⟨hk,⟨L,o,hf,hn,ho,hd⟩,hr⟩:=hl;have hL:L∈X.fs:=hs L (by unfold frs;rw [gz,hf];exact g7);obtain ⟨sl,e⟩:=I.base.slot L o ho (I.ok.iZ L hL) hL λz=>I.ok.oG L z hL
   exact ⟨hk,⟨L,_,hf,hn,e,hd⟩,ih (λb hb=>hs b (by unfold frs;rw [gz,hf];exact bE _ hb)) hr⟩
 exact all X.outer (λ_ hb=>hb) I.ok.dG
theorem Inv.stack (I:Inv X pins σ H s):s.heap.FunFrames X.base X.stack:=by
 rcases I.ok.stk with e | ⟨e,hf⟩
 ·rw [e];exact I.dG
 ·rw [e]
  obtain ⟨m,hn,_⟩:=I.loc;refine .cons (by rw [I.ok.kind];decide) hf hn ?_ I.dG;exact Heap.get?_none_of_le (Τ I.ok.gA I.ok.above)
theorem Inv.dM (I:Inv X pins σ H s):∀ b∈frs X.stack,b∈X.env.locals::X.fs:=λb hb=>by
 rcases I.ok.stk with e | ⟨e,hf⟩
 ·rw [e] at hb;exact bE _ hb
 ·rw [e] at hb
  unfold frs at hb;rw [gz,hf] at hb
  exact hb
theorem Inv.jF (I:Inv X pins σ H s):∀ b∈frs X.stack,H b=none:=λb hb=>by
 rcases Ν.mp (I.dM b hb) with e | hb
 ·rw [e];exact I.free
 ·obtain ⟨_,o,ho,_⟩:=I.ok.dG.mem hb
  exact I.base.free b o ho (I.ok.iZ b hb) λz=>I.ok.oG b z hb
theorem Inv.step {g':Array GenState} {t':Nat} {d':Drawn} {ch:List Addr} (I:Inv X pins σ H s)
  (hch:∀ b∈ch,(b∈X.ex\/X.s₀.heap.objs.size<=b)/\b≠X.env.locals/\(∀ x c,X.env.cells.lookup x=some c->c≠b)/\∀ p∈X.pn++pins,p.1≠b)
  (keep:∀ b o,b≠X.env.locals->b∉X.fs->b∉ch->s.heap.get? b=some o->H b=none->h'.get? b=some o)
  (slot:∀ b o,b≠X.env.locals->b∈X.fs->b∉ch->s.heap.get? b=some o->H b=none->∃ sl,h'.get? b=some { o with slots:=sl }) (free:∀ b o,b∉ch->s.heap.get? b=some o->H b=none->H' b=none)
  (there:∀ b o,b∉ch->s.heap.get? b=some o->∃ o',h'.get? b=some o')
  (tups:∀ b xs,H b=some (.tup xs)->H' b=some (.tup xs)) (dB:∀ b o u,H b=some (.eH o u)->H' b=some (.eH o u)) (dF:∀ b ps,H b=some (.bD ps)->∃ more,H' b=some (.bD (ps++more)))
  (ns:∀ m,s.heap.Ns X.env.locals m->h'.Ns X.env.locals m) (hok:bB X.prog X.w H' h') (hg:iA g') :
  Inv X pins σ H' { s with heap:=h',gens:=g',drawn:=d',toks:=t' }:=by
 have Fo:∀ b o,X.s₀.heap.get? b=some o->b≠X.env.locals:=λb o e=>ο (ξ (Ψ e) I.ok.above)
 have uz:∀ b o,X.s₀.heap.get? b=some o->b∉X.ex->b∉ch:=λb o e hx hb=>by
  rcases (hch b hb).1 with z | z
  ·exact hx z
  ·exact absurd (ξ (Ψ e) z) (cz _)
 have cellK:∀ x c,X.env.cells.lookup x=some c->∀ v,s.heap.IsCell c v->h'.IsCell c v:=λx c e v ⟨o,ho,hd⟩=>by
  have pY:c∉ch:=λz=>(hch c z).2.2.1 x c e rfl
  by_cases hc:c∈X.fs
  ·obtain ⟨sl,q⟩:=slot c o (I.kE x c e) hc pY ho (I.bK x c e)
   exact ⟨_,q,hd⟩
  ·exact ⟨o,keep c o (I.kE x c e) hc pY ho (I.bK x c e),hd⟩
 refine ⟨I.ok,I.os,hg,⟨λb o e n hb hx=>?_,λb o e n hb hx=>?_,λb o e n hx=>?_,λb o e hx=>?_,λb xs e=>tups b xs (I.base.tups b xs e),λb o xs e=>dB b o xs (I.base.dB b o xs e),λb ps e=>?_⟩,?_,λx c e=>?_,?_,λx c e=>?_,λp hp=>?_,hok,I.len⟩
 ·exact keep b o (Fo b o e) hb (uz b o e hx) (I.base.keep b o e n hb hx) (I.base.free b o e n hx)
 ·obtain ⟨sl,e1⟩:=I.base.slot b o e n hb hx
  obtain ⟨sl',e2⟩:=slot b _ (Fo b o e) hb (uz b o e hx) e1 (I.base.free b o e n hx);exact ⟨sl',e2⟩
 ·obtain ⟨o',e1⟩:=I.base.there b o e hx
  exact free b o' (uz b o e hx) e1 (I.base.free b o e n hx)
 ·obtain ⟨o',e1⟩:=I.base.there b o e hx
  exact there b o' (uz b o e hx) e1
 ·obtain ⟨m1,e1⟩:=I.base.dF b ps e
  obtain ⟨m2,e2⟩:=dF b _ e1;exact ⟨m1++m2,by rw [e2,Array.append_assoc]⟩
 ·obtain ⟨m,hn,hl⟩:=I.loc
  refine ⟨m,ns m hn,λi x v e1 e2 e3=>?_⟩;obtain ⟨u,r,l⟩:=hl i x v e1 e2 e3;refine ⟨u,r,?_⟩;rcases l with l | ⟨k,c,e,z⟩
  ·exact .inl l
  ·exact .inr ⟨k,c,e,cellK x c e _ z⟩
 ·obtain ⟨v,z⟩:=I.cell x c e
  exact ⟨v,cellK x c e v z⟩
 ·obtain ⟨m,⟨o,_,_,ho,_⟩,_⟩:=I.loc
  exact free _ o (λz=>(hch _ z).2.1 rfl) ho I.free
 ·obtain ⟨v,o,ho,hd⟩:=I.cell x c e
  exact free c o (λz=>(hch c z).2.2.1 x c e rfl) ho (I.bK x c e)
 ·obtain ⟨e,n,ne,nf,d⟩:=I.pin p hp
  have pY:p.1∉ch:=λz=>(hch p.1 z).2.2.2 p hp rfl
  exact ⟨keep p.1 p.2 ne nf pY e n,free p.1 p.2 pY e n,ne,nf,d⟩
theorem Inv.un {t':Nat} (I:Inv X pins σ H s) (u:Un X.fs [] H H' s.heap h') (hok:bB X.prog X.w H' h'):Inv X pins σ H' { s with heap:=h',toks:=t' }:=by
 obtain ⟨m,⟨o,es,ep,ho,r⟩,_⟩:=id I.loc;obtain ⟨sl,hL⟩:=u.any ho I.free (by simp);exact I.step (g':=s.gens) (d':=s.drawn) (ch:=[]) (λ_ z=>nomatch z) (λb o _ hb _ e n=>u.keep b o e n hb (by simp)) (λb o _ hb _ e n=>u.slot b o e n hb (by simp)) (λb o _ e n=>u.free b o e n (by simp)) (λb o _ e=>u.there b o e (by simp)) u.tups u.dB u.dF (λm' hm=>by
  obtain ⟨o',es',ep',ho',r'⟩:=hm;rw [ho] at ho';cases ho'
  exact ⟨_,es',ep',hL,r'⟩) hok I.bare
theorem Inv.call {g':Array GenState} {t':Nat} {d':Drawn} {ch:List Addr} (I:Inv X pins σ H s) (u:Un (frs X.stack) ch H H' s.heap h') (hok:bB X.prog X.w H' h') (hg:iA g')
  (hch:∀ b∈ch,(b∈X.ex\/X.s₀.heap.objs.size<=b)/\b≠X.env.locals/\(∀ x c,X.env.cells.lookup x=some c->c≠b)/\∀ p∈X.pn++pins,p.1≠b) :
  Inv X pins σ H' { s with heap:=h',gens:=g',drawn:=d',toks:=t' }:=by
 obtain ⟨m,⟨o,es,ep,ho,r⟩,_⟩:=id I.loc;obtain ⟨sl,hL⟩:=u.any ho I.free λz=>(hch _ z).2.1 rfl
 exact I.step (ch:=ch) hch (λb o hL hb hc e n=>u.keep b o e n (λz=>(Ν.mp (I.dM b z)).elim hL hb) hc) (λb o _ _ hc e n=>u.any e n hc) (λb o hc e n=>u.free b o e n hc) (λb o hc e=>u.there b o e hc) u.tups u.dB u.dF (λm' hm=>by
  obtain ⟨o',es',ep',ho',r'⟩:=hm;rw [ho] at ho';cases ho'
  exact ⟨_,es',ep',hL,r'⟩) hok hg
theorem Inv.turned {t':Nat} {it:Addr} (I:Inv X pins σ H s) (k:∀ b o,b≠it->s.heap.get? b=some o->h'.get? b=some o) (hn:H it=none) (hL:it≠X.env.locals)
  (h1:it∈X.ex\/X.s₀.heap.objs.size<=it) (h2:∀ x c,X.env.cells.lookup x=some c->c≠it) (h3:∀ p∈X.pn++pins,p.1≠it):Inv X pins σ H { s with heap:=h',toks:=t' }:=by
 have jL:∀ b u,H b=some u->b≠it:=λb u e z=>by rw [z,hn] at e;cases e
 refine I.step (g':=s.gens) (d':=s.drawn) (ch:=[it]) (λb hb=>?_) (λb o _ _ hc e _=>k b o (λz=>hc (by simp [z])) e) (λb o _ _ hc e _=>⟨o.slots,k b o (λz=>hc (by simp [z])) e⟩) (λ_ _ _ _ n=>n)
  (λb o hc e=>⟨o,k b o (λz=>hc (by simp [z])) e⟩) (λ_ _ e=>e) (λ_ _ _ e=>e) (λb ps e=>⟨#[],by rw [e];simp⟩) (λm hm=>?_) (λb u e=>?_) I.bare
 ·have e:b=it:=by simpa using hb
  subst e;exact ⟨h1,hL,h2,h3⟩
 ·obtain ⟨o,es,ep,ho,r⟩:=hm
  exact ⟨o,es,ep,k _ o (ai hL) ho,r⟩
 ·refine (I.hok b u e).stay (λc v hc q=>k c v ?_ q) (λ_ q=>q) λ_ _ q=>q
  rcases hc with z | z
  ·rw [z];exact jL b u e
  ·exact jL c _ z
theorem Inv.tok (I:Inv X pins σ H s) (t:Nat):Inv X pins σ H { s with toks:=t }:=I.un (h':=s.heap) (t':=t) Un.refl I.hok
theorem Inv.kept {t':Nat} (I:Inv X pins σ H s) (k:∀ b u,s.heap.get? b=some u->h'.get? b=some u):Inv X pins σ H { s with heap:=h',toks:=t' }:=I.un (Un.kept k) (I.hok.kept k)
theorem Inv.laid {a:Addr} {o:HO} {t':Nat} (I:Inv X pins σ H s) (k:∀ b u,s.heap.get? b=some u->h'.get? b=some u) (hp:s.heap.objs.size<=a) (new:YN X.prog X.w (upd H a o) h' a o) :
  Inv X pins σ (upd H a o) { s with heap:=h',toks:=t' }:=I.un (Un.laid k hp (I.hok.fresh hp)) (I.hok.laid k hp new)
theorem Inv.write {x e:Addr} {o:HO} {t':Nat} (I:Inv X pins σ H s) (mu:pW (H x)) (he:e=x\/H e=some (.own x)) (k:∀ b u,b≠e->s.heap.get? b=some u->h'.get? b=some u) (heo:∃ u,h'.get? e=some u)
  (new:YN X.prog X.w (upd H x o) h' x o):Inv X pins σ (upd H x o) { s with heap:=h',toks:=t' }:=I.un (Un.write mu he k heo) (I.hok.write mu he k heo new)
theorem Inv.mU {dJ:List (Addr×Obj)} (I:Inv X pins σ H s) (h:∀ p∈dJ,s.heap.get? p.1=some p.2/\H p.1=none/\p.1≠X.env.locals/\p.1∉X.fs/\∀ v,p.2.data ≠ .cell v):Inv X dJ σ H s :=
 ⟨I.ok,I.os,I.bare,I.base,I.loc,I.cell,I.free,I.bK,λp hp=>(a6.mp hp).elim (λz=>I.pin p (gt _ z)) (h p),I.hok,I.len⟩
theorem Fp {N:List Str} (hN:N.Nodup) {i j:Nat} {x:Str} (a:N[i]?=some x) (b:N[j]?=some x):i=j:=by
 obtain ⟨h1,e1⟩:=Η.mp a;obtain ⟨h2,e2⟩:=Η.mp b;exact (List.getElem_inj hN).mp (e1.trans e2.symm)
theorem S8 {M:Model} {A:ag} {E:Α->Ζ->Prop} {i:Nat} {x:Str} {v:V} {u:Α} {Q:Unit->Ζ->Prop} (I:Inv X pins σ H s) (hN:X.N.Nodup) (hi:X.N[i]?=some x) (hx:Loc X.env.scope x) (r:YB v u)
  (h:∀ s',Inv X pins (σ.set i (some v)) H s'->(∃ a,bP a s.heap s'.heap/\(a=X.env.locals\/X.env.cells.lookup x=some a))->Q () s') (hf:X.fn x=true\/X.env.scope.names.lookup x=some .local:=by first | exact .inl rfl | exact .inr rfl | assumption):Χ M A (storeName X.env x u) Q E s:=by
 obtain ⟨m,hn,hl⟩:=id I.loc;have hcls:(X.env.scope.kind == .class||(X.env.scope.kind == .module&&X.env.locals != X.env.globals))=false:=by rw [I.ok.kind];rfl
 have wK:i<σ.length:=by rw [I.len];exact (Η.mp hi).1
 have kE:=I.kE;have tracked:∀ {a:Addr} {h':Heap},(∃ o,s.heap.get? a=some o/\H a=none)->bP a s.heap h'->bB X.prog X.w H h':=λ{a h'} ha hs b ob e=>by
  obtain ⟨_,_,hfree⟩:=ha;refine (I.hok b ob e).stay (λc w' hc q=>(hs.2 c ?_).trans q) (λ_ q=>q) λ_ _ q=>q
  rintro rfl;rcases hc with rfl | hc
  ·rw [hfree] at e;cases e
  ·rw [hfree] at hc;cases hc
 rcases hx with hk | hk
 ·refine wpAny_storeName_local hk hn (λh' hn' hs=>?_) hcls
  obtain ⟨oL,_,_,hoL,_⟩:=id hn;refine h _ ⟨I.ok,I.os,I.bare,⟨λb o e n hb hx=>?_,λb o e n hb hx=>?_,I.base.free,λb o e hx=>?_,I.base.tups,I.base.dB,I.base.dF⟩,⟨_,hn',λj y v' e1 e2 e3=>?_⟩,λy c e=>?_,I.free,I.bK,λp hp=>?_,tracked ⟨oL,hoL,I.free⟩ hs,by simpa using I.len⟩ ⟨_,hs,.inl rfl⟩
  ·exact (hs.2 b (ο (ξ (Ψ e) I.ok.above))).trans (I.base.keep b o e n hb hx)
  ·obtain ⟨sl,e1⟩:=I.base.slot b o e n hb hx
   exact ⟨sl,(hs.2 b (ο (ξ (Ψ e) I.ok.above))).trans e1⟩
  ·obtain ⟨o',e1⟩:=I.base.there b o e hx
   exact ⟨o',(hs.2 b (ο (ξ (Ψ e) I.ok.above))).trans e1⟩
  ·by_cases hj:j=i
   ·subst hj
    rw [hi] at e1;cases e1
    rw [List.getElem?_set_self wK] at e2
    cases e2
    exact ⟨u,r,.inl ⟨hk,by simp⟩⟩
   ·rw [List.getElem?_set_ne (ai hj)] at e2
    obtain ⟨u',r',q⟩:=hl j y v' e1 e2 e3;refine ⟨u',r',?_⟩;rcases q with ⟨k,e⟩ | ⟨k,c,e,z⟩
    ·refine .inl ⟨k,?_⟩
     have:y≠x:=λe=>hj (Fp hN e1 (e▸hi))
     simp [this,e]
    ·exact .inr ⟨k,c,e,z.sameBut hs (kE y c e)⟩
  ·obtain ⟨w',z⟩:=I.cell y c e
   exact ⟨w',z.sameBut hs (kE y c e)⟩
  ·obtain ⟨e,n,ne,nf,d⟩:=I.pin p hp
   exact ⟨(hs.2 p.1 ne).trans e,n,ne,nf,d⟩
 ·have hfn:X.fn x=true:=by
   rcases hf with z | z
   ·exact z
   ·rw [z] at hk;cases hk
  obtain ⟨c,hc⟩:=I.ok.has x (.inl hk);obtain ⟨w',z⟩:=I.cell x c hc;refine wpAny_storeName_cell I.ok.kind hk hc z (λh' hc' hs=>?_);obtain ⟨oc,hoc,Ri⟩:=id z;refine h { s with heap:=h' } ⟨I.ok,I.os,I.bare,⟨λb o e n hb hx=>?_,λb o e n hb hx=>?_,I.base.free,λb o e hx=>?_,I.base.tups,I.base.dB,I.base.dF⟩,⟨m,hn.sameBut hs (ai (kE x c hc)),λj y v' e1 e2 e3=>?_⟩,λy c' e=>?_,I.free,I.bK,λp hp=>?_,tracked ⟨oc,hoc,I.bK x c hc⟩ hs,by simpa using I.len⟩ ⟨c,hs,.inr hc⟩
  ·exact (hs.2 b (ο (ξ (Ψ e) (I.ok.cab x c hfn hc)))).trans (I.base.keep b o e n hb hx)
  ·obtain ⟨sl,e1⟩:=I.base.slot b o e n hb hx
   exact ⟨sl,(hs.2 b (ο (ξ (Ψ e) (I.ok.cab x c hfn hc)))).trans e1⟩
  ·obtain ⟨o',e1⟩:=I.base.there b o e hx
   exact ⟨o',(hs.2 b (ο (ξ (Ψ e) (I.ok.cab x c hfn hc)))).trans e1⟩
  ·by_cases hj:j=i
   ·subst hj
    rw [hi] at e1;cases e1
    rw [List.getElem?_set_self wK] at e2
    cases e2
    exact ⟨u,r,.inr ⟨.inl hk,c,hc,hc'⟩⟩
   ·rw [List.getElem?_set_ne (ai hj)] at e2
    obtain ⟨u',r',q⟩:=hl j y v' e1 e2 e3;refine ⟨u',r',?_⟩;rcases q with q | ⟨k,c',e,z'⟩
    ·exact .inl q
    ·refine .inr ⟨k,c',e,z'.sameBut hs ?_⟩
     rintro rfl;exact hj (Fp hN e1 (I.ok.inj _ _ _ e hc▸hi))
  ·by_cases hcc:c'=c
   ·subst hcc;exact ⟨_,hc'⟩
   ·obtain ⟨w2,z2⟩:=I.cell y c' e
    exact ⟨w2,z2.sameBut hs hcc⟩
  ·obtain ⟨e,n,ne,nf,d⟩:=I.pin p hp
   refine ⟨(hs.2 p.1 ?_).trans e,n,ne,nf,d⟩;intro q;rw [q,hoc] at e
   have q':oc=p.2:=Δ e;exact d w' (by rw [<- q'];exact Ri)
theorem VB {M:Model} {A:ag} {E:Α->Ζ->Prop} {i:Nat} {x:Str} {v:V} {u:Α} {Q:Unit->Ζ->Prop} (I:Inv X pins σ H s) (hN:X.N.Nodup) (hi:X.N[i]?=some x) (hx:Loc X.env.scope x) (r:YB v u)
  (h:∀ s',Inv X pins (σ.set i (some v)) H s'->Q () s') (hf:X.fn x=true\/X.env.scope.names.lookup x=some .local:=by first | exact .inl rfl | exact .inr rfl | assumption):Χ M A (storeName X.env x u) Q E s :=
 S8 I hN hi hx r (λs' I' _=>h s' I') hf
theorem Inv.call' {s':Ζ} {ch:List Addr} (I:Inv X pins σ H s) (ho:s'.os=s.os) (u:Un (frs X.stack) ch H H' s.heap s'.heap) (hok:bB X.prog X.w H' s'.heap) (hg:iA s'.gens)
  (hch:∀ b∈ch,(b∈X.ex\/X.s₀.heap.objs.size<=b)/\b≠X.env.locals/\(∀ x c,X.env.cells.lookup x=some c->c≠b)/\∀ p∈X.pn++pins,p.1≠b):Inv X pins σ H' s':=by
 obtain ⟨h',g',d',t',o'⟩:=s';have e:o'=s.os:=ho;subst e;exact I.call (g':=g') (t':=t') (d':=d') u hok hg hch
end
abbrev XK:=Α->Option Addr->Hp->Prop
abbrev St:=List (Option V)
abbrev VK:=V->Hp->Prop
abbrev TE:=St->Hp->VK->Prop
abbrev TT:=St->Hp->(Bool->Hp->Prop)->Prop
abbrev TA:=St->Hp->(List V->Hp->Prop)->Prop
structure Ends where
 nx:St->Hp->Prop
 rt:VK
 bk:St->Hp->Prop:=λ_ _=>False
 ct:St->Hp->Prop:=λ_ _=>False
abbrev TS:=Ends->St->Hp->Prop
def EP (X:Cx) (pins:List (Addr×Obj)) (σ:St) (Q:VK) (u:Α) (s':Ζ):Prop:=∃ v H',Inv X pins σ H' s'/\YB v u/\Q v H'
def TP (X:Cx) (pins:List (Addr×Obj)) (σ:St) (Q:Bool->Hp->Prop) (b:Bool) (s':Ζ):Prop:=∃ H',Inv X pins σ H' s'/\Q b H'
def AP (X:Cx) (pins:List (Addr×Obj)) (σ:St) (Q:List V->Hp->Prop) (us:List Α) (s':Ζ):Prop:=∃ vs H',Inv X pins σ H' s'/\Yt vs us/\Q vs H'
def SP (X:Cx) (pins:List (Addr×Obj)) (D:Ends) (f:Flow) (s':Ζ):Prop :=
 match f with
 | .next=>∃ σ' H',Inv X pins σ' H' s'/\D.nx σ' H'
 | .brk=>∃ σ' H',Inv X pins σ' H' s'/\D.bk σ' H'
 | .cont=>∃ σ' H',Inv X pins σ' H' s'/\D.ct σ' H'
 | .ret u=>∃ v σ' H',Inv X pins σ' H' s'/\YB v u/\D.rt v H'
def PE (X:Cx) (e:Expr) (t:TE):Prop :=
 ∀ (pins:List (Addr×Obj)) (s:Ζ) (σ:St) (H:Hp) (Q:VK),Inv X pins σ H s->t σ H Q->Χ (Ω X.prog X.w) X.A (eval e X.env) (EP X pins σ Q) X.xe s
def PT (X:Cx) (e:Expr) (t:TT):Prop :=
 ∀ (pins:List (Addr×Obj)) (s:Ζ) (σ:St) (H:Hp) (Q:Bool->Hp->Prop),Inv X pins σ H s->t σ H Q->Χ (Ω X.prog X.w) X.A (isTrue e X.env (eval e X.env)) (TP X pins σ Q) X.xe s
def PW (X:Cx) (e:Expr) (t:TT):Prop :=
 ∀ (whole:Sem Α) (pins:List (Addr×Obj)) (s:Ζ) (σ:St) (H:Hp) (Q:Bool->Hp->Prop),Inv X pins σ H s->t σ H Q->Χ (Ω X.prog X.w) X.A (isTrue e X.env whole) (TP X pins σ Q) X.xe s
theorem PW.pt {X:Cx} {e:Expr} {t:TT} (h:PW X e t):PT X e t:=h _
def PA (X:Cx) (es:List Expr) (t:TA):Prop :=
 ∀ (pos:Pos) (pins:List (Addr×Obj)) (s:Ζ) (σ:St) (H:Hp) (Q:List V->Hp->Prop),Inv X pins σ H s->t σ H Q->Χ (Ω X.prog X.w) X.A (spliced (b8 pos (η es X.env))) (AP X pins σ Q) X.xe s
def PS (X:Cx) (st:Stmt) (t:TS):Prop :=
 ∀ (pins:List (Addr×Obj)) (s:Ζ) (σ:St) (H:Hp) (D:Ends),Inv X pins σ H s->t D σ H->Χ (Ω X.prog X.w) X.A (exec st X.env) (SP X pins D) X.xe s
def eN (X:Cx) (st:List Stmt) (t:TS):Prop :=
 ∀ (pins:List (Addr×Obj)) (s:Ζ) (σ:St) (H:Hp) (D:Ends),Inv X pins σ H s->t D σ H->Χ (Ω X.prog X.w) X.A (execs st X.env) (SP X pins D) X.xe s
theorem aA {α:Type} {t:Sem α} {Q Q':α->Ζ->Prop} {M:Model} {A:ag} {E:Α->Ζ->Prop} {s:Ζ} (h:Χ M A t Q E s) (hQ:∀ a s,Q a s->Q' a s):Χ M A t Q' E s:=a5 h hQ λ_ _ x=>x
section
variable {X:Cx}
def kI (x:V) (k:Int->Prop):Prop:=match x with | .int i=>k i | _=>False
def kB (x:V) (k:Bool->Prop):Prop:=match x with | .bl i=>k i | _=>False
def kR (x:V) (k:Addr->Prop):Prop:=match x with | .ref i=>k i | _=>False
def k1 (l:List V) (k:V->Prop):Prop:=match l with | [x]=>k x | _=>False
def k2 (l:List V) (k:V->V->Prop):Prop:=match l with | [x,y]=>k x y | _=>False
theorem Fq (i:Int) (k:Int->Prop):kI (.int i) k=k i:=rfl
theorem Ft (i:Bool) (k:Bool->Prop):kB (.bl i) k=k i:=rfl
theorem Fv (i:Addr) (k:Addr->Prop):kR (.ref i) k=k i:=rfl
theorem Fw (x:V) (k:V->Prop):k1 [x] k=k x:=rfl
theorem Fx (x y:V) (k:V->V->Prop):k2 [x,y] k=k x y:=rfl
theorem Qy {x:V} {k:Int->Prop}:kI x k↔∃ i,x = .int i/\k i:=⟨λh=>by cases x<;>first | exact ⟨_,rfl,h⟩ | exact h.elim,λ⟨_,e,h⟩=>e▸h⟩
theorem uE {x:V} {k:Bool->Prop}:kB x k↔∃ i,x = .bl i/\k i:=⟨λh=>by cases x<;>first | exact ⟨_,rfl,h⟩ | exact h.elim,λ⟨_,e,h⟩=>e▸h⟩
theorem Vm {x:V} {k:Addr->Prop}:kR x k↔∃ i,x = .ref i/\k i:=⟨λh=>by cases x<;>first | exact ⟨_,rfl,h⟩ | exact h.elim,λ⟨_,e,h⟩=>e▸h⟩
theorem wL {l:List V} {k:V->Prop} (h:k1 l k):∃ x,l=[x]/\k x:=by
 unfold k1 at h
 split at h
 ·exact ⟨_,rfl,h⟩
 ·exact h.elim
theorem sO {l:List V} {k:V->V->Prop} (h:k2 l k):∃ x y,l=[x,y]/\k x y:=by
 unfold k2 at h
 split at h
 ·exact ⟨_,_,rfl,h⟩
 ·exact h.elim
def iB:Nat->St->(V->Prop)->Prop
 | 0,σ,k=>match σ with | some v::_=>k v | _=>False
 | n+1,σ,k=>match σ with | _::l=>iB n l k | []=>False
theorem Fy (v:V) (l:St) (k:V->Prop):iB 0 (some v::l) k=k v:=rfl
theorem Fz (n:Nat) (a:Option V) (l:St) (k:V->Prop):iB (n+1) (a::l) k=iB n l k:=rfl
theorem wM:∀ {n:Nat} {σ:St} {k:V->Prop},iB n σ k->∃ v,σ[n]?=some (some v)/\k v
 | 0,σ,k,h=>by
  unfold iB at h
  split at h
  ·exact ⟨_,rfl,h⟩
  ·exact h.elim
 | n+1,σ,k,h=>by
  unfold iB at h
  split at h
  ·exact wM (n:=n) h
  ·exact h.elim
theorem FJ:∀ {n:Nat} {σ:St} {k:V->Prop} {v:V},σ[n]?=some (some v)->k v->iB n σ k
 | _,[],_,_,e,_=>by simp at e
 | 0,a::σ,k,v,e,h=>by
  have:a=some v:=by simpa using e
  subst this;exact h
 | n+1,a::σ,k,v,e,h=>FJ (n:=n) (σ:=σ) (by simpa using e) h
def UK (i:Nat):TE:=λσ H Q=>iB i σ λv=>Q v H
def tC (v:V):TE:=λ_ H Q=>Q v H
theorem FN {i:Nat} {x:Str} {pos:Pos} (hN:X.N[i]?=some x) (hv:pX X.env.scope x) (hd:(x==("__debug__":Str))=false:=by decide) (hcd:(x==("__classdict__":Str))=false:=by decide):PE X (.Name x pos) (UK i):=by
 intro pins s σ H Q I h;obtain ⟨v,e,h⟩:=wM h;obtain ⟨m,hn,hl⟩:=I.loc;obtain ⟨u,r,l⟩:=hl i x v hN e hv;have fin:EP X pins σ Q u s:=⟨v,H,I,r,h⟩;rcases l with ⟨hk,hm⟩ | ⟨hk,c,hc,hcell⟩
 ·exact wpAny_Name (wpAny_loadName_local I.ok.kind hk hn hm fin) hd
 ·rcases hk with hk | hk
  ·exact wpAny_Name (wpAny_loadName_cell I.ok.kind hk hc hcell fin) hd
  ·exact wpAny_Name (wpAny_loadName_free I.ok.kind hk hc hcell fin hcd) hd
theorem Yh {i j pos}:PE X (.Constant (.int i) j pos) (tC (.int i)):=λ_ _ _ H _ I h=>wpAny_Constant_int ⟨.int i,H,I.tok _,⟨_,rfl⟩,h⟩
theorem Uo {b j pos}:PE X (.Constant (.bool b) j pos) (tC (.bl b)):=λ_ _ _ H _ I h=>Constant_bool ⟨.bl b,H,I,rfl,h⟩
theorem S9 {j pos}:PE X (.Constant .none j pos) (tC .non):=λ_ _ _ H _ I h=>Constant_none ⟨.non,H,I,rfl,h⟩
theorem YO {x j pos}:PE X (.Constant (.str x) j pos) (tC (.str x)):=λ_ _ _ H _ I h=>Calls.Constant_str ⟨.str x,H,I.tok _,⟨_,rfl⟩,h⟩
def Gl (X:Cx) (x:Str):Prop:=X.env.kindOf x=some .globalImplicit
theorem Up {E:Α->Ζ->Prop} {pins:List (Addr×Obj)} {s:Ζ} {σ:St} {H:Hp} {x:Str} {u:Α} {pos:Pos} {Q:Α->Ζ->Prop} (I:Inv X pins σ H s) (hg:Gl X x) (hm:X.mg x=some u) (h:Q u s)
  (hd:(x==("__debug__":Str))=false:=by decide):Χ (Ω X.prog X.w) X.A (eval (.Name x pos) X.env) Q E s :=
 Calls.Name_function_global I.ok.kind hg (Calls.loadGlobal_global (by rw [I.ok.glob];exact I.mod.glob.keeps I.bk) hm h) hd
theorem W3 {E:Α->Ζ->Prop} {pins:List (Addr×Obj)} {s:Ζ} {σ:St} {H:Hp} {x:Str} {u:Α} {pos:Pos} {Q:Α->Ζ->Prop} (I:Inv X pins σ H s) (hg:Gl X x) (hm:X.mg x=none) (hv:eh x=some u) (h:Q u s)
  (hn:x≠"__name__":=by decide) (hd:(x==("__debug__":Str))=false:=by decide):Χ (Ω X.prog X.w) X.A (eval (.Name x pos) X.env) Q E s:=by
 obtain ⟨mb,h1,h2⟩:=I.mod.blt;exact Calls.Name_function_global I.ok.kind hg (Calls.loadGlobal_builtin (by rw [I.ok.glob];exact I.mod.glob.keeps I.bk) hm (by rw [I.ok.blt];exact h1.keeps I.bk) ((h2 x hn).trans hv) h) hd
theorem FP {x:Str} {v:V} {u:Α} {pos:Pos} (hg:Gl X x) (hm:X.mg x=some u) (r:YB v u) (hd:(x==("__debug__":Str))=false:=by decide):PE X (.Name x pos) (tC v) :=
 λ_ _ _ H _ I h=>Up I hg hm ⟨v,H,I,r,h⟩ hd
theorem Tc {x:Str} {v:V} {u:Α} {pos:Pos} (hg:Gl X x) (hm:X.mg x=none) (hv:eh x=some u) (r:YB v u) (hn:x≠"__name__":=by decide) (hd:(x==("__debug__":Str))=false:=by decide):PE X (.Name x pos) (tC v) :=
 λ_ _ _ H _ I h=>W3 I hg hm hv ⟨v,H,I,r,h⟩ hn hd
variable {a b:Expr} {ta tb:TE} {pos:Pos}
def tB (t:TE):TT:=λσ H Q=>t σ H λx H1=>kB x λc=>Q c H1
theorem X3 {e:Expr} {t:TE} (h:PE X e t) (he:∀ whole,isTrue e X.env whole=(do let v <- whole;standAt e.pos;holding [v] (truthy v)):=by intro _;rfl):PT X e (tB t):=by
 intro pins s σ H Q I hw;refine isTrue_plain (aA (h pins s σ H _ I hw) λv s1 ⟨x,H1,I1,r1,q1⟩=>?_) (he _);obtain ⟨d,rfl,q⟩:=uE.mp q1
 cases r1
 exact wpAny_truthy_bool ⟨H1,I1,q⟩
variable {tA uF:TT} {YG:List Expr}
def sS (t u:TT):TT:=λσ H Q=>t σ H λc H1=>if c=true then u σ H1 Q else Q false H1
def wN (t u:TT):TT:=λσ H Q=>t σ H λc H1=>if c=true then Q true H1 else u σ H1 Q
def sU (t:TT):TT:=λσ H Q=>t σ H λc H1=>Q (!c) H1
theorem Td (ha:PT X a tA):PW X (.BoolOp .And [a] pos) tA:=by
 intro wh pins s σ H Q I h;refine isTrue_and (aA (ha pins s σ H Q I h) λc s1 e=>?_)
 cases c with
 | true=>exact isTrue_and_nil e
 | false=>exact e
theorem U4 (ha:PT X a tA):PW X (.BoolOp .Or [a] pos) tA:=by
 intro wh pins s σ H Q I h;refine isTrue_or (aA (ha pins s σ H Q I h) λc s1 e=>?_)
 cases c with
 | false=>exact isTrue_or_nil e
 | true=>exact e
theorem Te (ha:PT X a tA) (hb:PW X (.BoolOp .And (b::YG) pos) uF):PW X (.BoolOp .And (a::b::YG) pos) (sS tA uF):=by
 intro wh pins s σ H Q I h;refine isTrue_and (aA (ha pins s σ H _ I h) λc s1 ⟨H1,I1,q1⟩=>?_)
 cases c with
 | true=>exact hb wh pins s1 σ H1 Q I1 q1
 | false=>exact ⟨H1,I1,q1⟩
theorem uG (ha:PT X a tA) (hb:PW X (.BoolOp .Or (b::YG) pos) uF):PW X (.BoolOp .Or (a::b::YG) pos) (wN tA uF):=by
 intro wh pins s σ H Q I h;refine isTrue_or (aA (ha pins s σ H _ I h) λc s1 ⟨H1,I1,q1⟩=>?_)
 cases c with
 | true=>exact ⟨H1,I1,q1⟩
 | false=>exact hb wh pins s1 σ H1 Q I1 q1
theorem wO (ha:PT X a tA):PT X (.UnaryOp .Not a pos) (sU tA):=by
 intro pins s σ H Q I h;exact isTrue_not (ha pins s σ H (λc H1=>Q (!c) H1) I h)
def wQ (ta tb:TE):TE:=λσ H Q=>ta σ H λx H1=>kB x λc=>if c=true then tb σ H1 Q else Q (.bl false) H1
def wR (ta tb:TE):TE:=λσ H Q=>ta σ H λx H1=>kB x λc=>if c=true then Q (.bl true) H1 else tb σ H1 Q
def FQ (ta:TE):TE:=λσ H Q=>ta σ H λx H1=>kB x λc=>Q (.bl (!c)) H1
theorem wU {op} {t:TE} (h:PE X a t):PE X (.BoolOp op [a] pos) t:=λpins s σ H Q I hw=>BoolOp_one (h pins s σ H Q I hw)
theorem wV (ha:PE X a ta) (hb:PE X (.BoolOp .And (b::YG) pos) tb):PE X (.BoolOp .And (a::b::YG) pos) (wQ ta tb):=by
 intro pins s σ H Q I h;refine BoolOp_and (aA (ha pins s σ H _ I h) λv s1 ⟨x,H1,I1,r1,q1⟩=>?_)
 replace q1:=uE.mp q1
 obtain ⟨c,rfl,q1⟩:=q1
 cases r1
 refine wpAny_truthy_bool ?_
 cases c with
 | true=>exact hb pins s1 σ H1 Q I1 q1
 | false=>exact ⟨.bl false,H1,I1,rfl,q1⟩
def wW (t:TT) (ta tb:TE):TE:=λσ H Q=>t σ H λc H1=>if c=true then ta σ H1 Q else tb σ H1 Q
theorem VC {c:Expr} (hc:PT X c tA) (ha:PE X a ta) (hb:PE X b tb):PE X (.IfExp c a b pos) (wW tA ta tb):=by
 intro pins s σ H Q I h;refine wpAny_IfExp (aA (hc pins s σ H _ I h) λd s1 ⟨H1,I1,q1⟩=>?_)
 cases d with
 | true=>exact ha pins s1 σ H1 Q I1 q1
 | false=>exact hb pins s1 σ H1 Q I1 q1
end
def au (K:Θ) (H:Hp) (a:Addr) (xs:List V):Prop :=
 Rd H a (.lst xs) \/
  ∃ (o:Obj) (its:Array Α) (n:Nat),K.lookup a=some o/\o.cls = .type "list"/\o.dict=none/\o.data = .seq its n/\its.size<=sizeLine/\Yt xs its.toList
def aJ (K:Θ) (H:Hp) (a:Addr) (xs:List V):Prop :=
 Rd H a (.tup xs) \/
  ∃ (o:Obj) (its:Array Α) (n:Nat),K.lookup a=some o/\o.cls = .type "tuple"/\o.data = .seq its n/\its.size<=sizeLine/\Yt xs its.toList
def Rj:Α->Option V
 | .none=>some .non
 | .bool b=>some (.bl b)
 | .int i _=>some (.int i)
 | .str x _=>some (.str x)
 | .bytes b _=>some (.gw b)
 | .float b _=>some (.flt b)
 | .ref a=>some (.ref a)
 | .type n=>some (.ty n)
 | _=>none
theorem YB.abs {x:V} {u:Α} (r:YB x u):Rj u=some x:=by
 cases x with
 | non=>cases r;rfl
 | bl _=>cases r;rfl
 | int _=>obtain ⟨t,rfl⟩:=r;rfl
 | str _=>obtain ⟨t,rfl⟩:=r;rfl
 | gw _=>obtain ⟨t,rfl⟩:=r;rfl
 | flt _=>obtain ⟨t,rfl⟩:=r;rfl
 | ref _=>cases r;rfl
 | ty _=>cases r;rfl
theorem YB.inj {x y:V} {u:Α} (r:YB x u) (q:YB y u):x=y:=Δ (r.abs.symm.trans q.abs)
theorem Yt.inj:∀ {xs ys:List V} {us:List Α},Yt xs us->Yt ys us->xs=ys
 | _,_,_,.nil,.nil=>rfl
 | _,_,_,.cons r t,.cons r' t'=>by rw [r.inj r',Yt.inj t t']
section
variable {X:Cx} {pins:List (Addr×Obj)} {σ:St} {H:Hp} {s:Ζ} {a:Addr} {xs ys:List V}
theorem au.of {K:Θ} (h:H a=some (.lst xs)):au K H a xs := .inl (.inl h)
theorem aJ.of {K:Θ} (h:H a=some (.tup xs)):aJ K H a xs := .inl (.inl h)
theorem Inv.list (I:Inv X pins σ H s) (h:au X.K H a xs):∃ its:List Α,Yt xs its/\PlainL s.heap a its.toArray/\xs.length<=sizeLine:=by
 rcases h with h | ⟨o,its,n,hk,hc,hd,hs,hz,r⟩
 ·obtain ⟨z,its,n,r,e⟩:=h.ok I.hok
  exact ⟨its,r,⟨_,n,e,rfl,rfl,rfl⟩,z⟩
 ·refine ⟨its.toList,r,⟨o,n,I.bL a o hk,hc,hd,by simpa using hs⟩,?_⟩
  have e:=r.length;simp only [gE] at e;omega
theorem Inv.tuple (I:Inv X pins σ H s) (h:aJ X.K H a xs):∃ its:List Α,Yt xs its/\IsTup s.heap a its.toArray/\xs.length<=sizeLine:=by
 rcases h with h | ⟨o,its,n,hk,hc,hs,hz,r⟩
 ·obtain ⟨z,its,r,p⟩:=h.ok I.hok
  exact ⟨its,r,p,z⟩
 ·refine ⟨its.toList,r,⟨o,I.bL a o hk,hc,n,by simpa using hs⟩,?_⟩
  have e:=r.length;simp only [gE] at e;omega
theorem Inv.kJ (I:Inv X pins σ H s) (h:au X.K H a xs) (h':au X.K H a ys):xs=ys:=by
 obtain ⟨its,r,⟨o,n,e,_,_,d⟩,_⟩:=I.list h;obtain ⟨its',r',⟨o',n',e',_,_,d'⟩,_⟩:=I.list h';rw [e] at e';cases e'
 rw [d] at d'
 injection d' with d1 _
 have:its=its':=by simpa using congrArg Array.toList d1
 subst this;exact r.inj r'
theorem Inv.pZ (I:Inv X pins σ H s) (h:aJ X.K H a xs) (h':aJ X.K H a ys):xs=ys:=by
 obtain ⟨its,r,⟨o,e,_,n,d⟩,_⟩:=I.tuple h;obtain ⟨its',r',⟨o',e',_,n',d'⟩,_⟩:=I.tuple h';rw [e] at e';cases e'
 rw [d] at d'
 injection d' with d1 _
 have:its=its':=by simpa using congrArg Array.toList d1
 subst this;exact r.inj r'
end
abbrev Cx.wish (X:Cx) (E:Α->Ζ->Prop):Cx:={ X with xe:=E }
abbrev Cx.iC (X:Cx):Cx:=X.wish λ_ _=>False
theorem Cx.Ok.wish {X:Cx} (ok:X.Ok) (E:Α->Ζ->Prop):(X.wish E).Ok :=
 ⟨ok.mod,ok.kind,ok.glob,ok.blt,ok.above,ok.inj,ok.has,ok.cab,ok.hd,ok.frames,ok.stk,ok.Fl,ok.bs,ok.gA,ok.jE,ok.oG,ok.dG,ok.iZ⟩
theorem Cx.Ok.cV {X:Cx} {E:Α->Ζ->Prop} (ok:(X.wish E).Ok):X.Ok :=
 ⟨ok.mod,ok.kind,ok.glob,ok.blt,ok.above,ok.inj,ok.has,ok.cab,ok.hd,ok.frames,ok.stk,ok.Fl,ok.bs,ok.gA,ok.jE,ok.oG,ok.dG,ok.iZ⟩
section
variable {X:Cx} {pins:List (Addr×Obj)} {σ:St} {H:Hp} {s:Ζ} {E:Α->Ζ->Prop}
theorem Inv.wish (I:Inv X pins σ H s) (E:Α->Ζ->Prop):Inv (X.wish E) pins σ H s:=⟨I.ok.wish E,I.os,I.bare,I.base,I.loc,I.cell,I.free,I.bK,I.pin,I.hok,I.len⟩
theorem Inv.cV (I:Inv (X.wish E) pins σ H s):Inv X pins σ H s:=⟨I.ok.cV,I.os,I.bare,I.base,I.loc,I.cell,I.free,I.bK,I.pin,I.hok,I.len⟩
theorem SP.cV {D:Ends} {f:Flow} {s':Ζ} (h:SP (X.wish E) pins D f s'):SP X pins D f s':=by
 cases f with
 | next=>obtain ⟨σ',H',I,q⟩:=h;exact ⟨σ',H',I.cV,q⟩
 | brk=>obtain ⟨σ',H',I,q⟩:=h;exact ⟨σ',H',I.cV,q⟩
 | cont=>obtain ⟨σ',H',I,q⟩:=h;exact ⟨σ',H',I.cV,q⟩
 | ret u=>obtain ⟨v,σ',H',I,r,q⟩:=h;exact ⟨v,σ',H',I.cV,r,q⟩
theorem eN.iC {st:List Stmt} {t:TS} (h:eN X.iC st t):eN X st t:=λpins s σ H D I hw =>
 a5 (h pins s σ H D (I.wish _) hw) (λ_ _ q=>q.cV) λ_ _ z=>b9 z
end
section
variable {X:Cx} {st:Stmt} {YG:List Stmt} {t u:TS} {e:Expr} {te:TE} {pos:Pos}
def wX:TS:=λD σ H=>D.nx σ H
def We (t u:TS):TS:=λD σ H=>t { D with nx:=u D } σ H
theorem Yw:eN X [] wX:=λ_ _ σ H _ I h=>iO ⟨σ,H,I,h⟩
theorem Yf (h1:PS X st t) (h2:eN X YG u):eN X (st::YG) (We t u):=by
 intro pins s σ H D I h;refine ip (aA (h1 pins s σ H { D with nx:=u D } I h) λf s1 q=>?_)
 cases f with
 | next =>
  obtain ⟨σ',H',I',q⟩:=q;exact h2 pins s1 σ' H' D I' q
 | ret v=>exact q
 | brk=>exact q
 | cont=>exact q
theorem Yi (h1:PS X st t):eN X [st] t:=by
 intro pins s σ H D I h;refine ip (aA (h1 pins s σ H D I h) λf s1 q=>?_)
 cases f with
 | next=>exact iO q
 | ret v=>exact q
 | brk=>exact q
 | cont=>exact q
def FT:TS:=λD σ H=>D.bk σ H
def FW:TS:=λD σ H=>D.ct σ H
theorem Inv.quiet {pins:List (Addr×Obj)} {σ:St} {H:Hp} {s:Ζ} (I:Inv X pins σ H s):interactive X.env=false:=by simp [interactive,I.ok.kind]
def wY (te:TE):TS:=λD σ H=>te σ H λ_ H1=>D.nx σ H1
theorem Y9 (he:PE X e te) (hs:swapsWith e none pos.line X.env=pure false:=by rfl):PS X (.Expr e pos) (wY te):=by
 intro pins s σ H D I h;exact wpAny_Expr_any (aA (he pins s σ H _ I h) λv s1 ⟨x,H1,I1,r1,q1⟩=>⟨σ,H1,I1,q1⟩) I.quiet hs
def sV (te:TE):TS:=λD σ H=>te σ H D.rt
theorem Yn (he:PE X e te):PS X (.Return (some e) pos) (sV te):=by
 intro pins s σ H D I h;exact wpAny_Return_some (aA (he pins s σ H _ I h) λv s1 ⟨x,H1,I1,r1,q1⟩=>⟨x,σ,H1,I1,r1,q1⟩)
def FZ:TS:=λD _ H=>D.rt .non H
def sW (c:TT) (t u:TS):TS:=λD σ H=>c σ H λb H1=>if b=true then t D σ H1 else u D σ H1
theorem YF {c:Expr} {a b:List Stmt} {tc:TT} (hc:PT X c tc) (ha:eN X a t) (hb:eN X b u):PS X (.If c a b pos) (sW tc t u):=by
 intro pins s σ H D I h;refine wpAny_If (aA (hc pins s σ H _ I h) λd s1 ⟨H1,I1,q1⟩=>?_)
 cases d with
 | true=>exact ha pins s1 σ H1 D I1 q1
 | false=>exact hb pins s1 σ H1 D I1 q1
def wZ:TS:=λ_ _ _=>False
theorem W4:PS X st wZ:=λ_ _ _ _ _ _ h=>h.elim
end
abbrev TG:=V->St->Hp->(St->Hp->Prop)->Prop
abbrev kO:=List V->St->Hp->(St->Hp->Prop)->Prop
def PG (X:Cx) (target:Expr) (t:TG):Prop :=
 ∀ (pins:List (Addr×Obj)) (s:Ζ) (σ:St) (H:Hp) (v:V) (u:Α) (Q:St->Hp->Prop),Inv X pins σ H s->YB v u->t v σ H Q ->
  Χ (Ω X.prog X.w) X.A (assign target X.env u) (λ_ s'=>∃ σ' H',Inv X pins σ' H' s'/\Q σ' H') X.xe s
def uH (X:Cx) (ts:List Expr) (t:kO):Prop :=
 ∀ (pins:List (Addr×Obj)) (s:Ζ) (σ:St) (H:Hp) (vs:List V) (us:List Α) (Q:St->Hp->Prop),Inv X pins σ H s->Yt vs us->t vs σ H Q ->
  Χ (Ω X.prog X.w) X.A (assignInOrder ((ib ts X.env).map (·.2)) us) (λ_ s'=>∃ σ' H',Inv X pins σ' H' s'/\Q σ' H') X.xe s
abbrev Rk:=V->V->V->Hp->(Hp->Prop)->Prop
abbrev uI:=V->V->Hp->VK->Prop
def w6 (X:Cx) (op:Operator) (t:uI):Prop :=
 ∀ (pins:List (Addr×Obj)) (s:Ζ) (σ:St) (H:Hp) (x y:V) (v u:Α) (Q:VK),Inv X pins σ H s->YB x v->YB y u->t x y H Q ->
  Χ (Ω X.prog X.w) X.A (inplaceOp op v u) (EP X pins σ Q) X.xe s
section
variable {X:Cx} {pos:Pos}
def Yv (i:Nat):TG:=λv σ H Q=>Q (σ.set i (some v)) H
theorem Yu {i:Nat} {x:Str} (hN:X.N.Nodup) (hi:X.N[i]?=some x) (hx:Loc X.env.scope x) (hf:X.fn x=true\/X.env.scope.names.lookup x=some .local:=by first | exact .inl rfl | exact .inr rfl | assumption):PG X (.Name x pos) (Yv i):=by
 intro pins s σ H v u Q I r h;exact wpAny_assign_Name (VB I hN hi hx r (λs' I'=>⟨_,H,I',h⟩) hf)
def VD:kO:=λvs σ H Q=>vs=[]/\Q σ H
def XD (t:TG) (u:kO):kO:=λvs σ H Q=>∃ v r,vs=v::r/\t v σ H λσ' H'=>u r σ' H' Q
theorem Vq:uH X [] VD:=by
 intro pins s σ H vs us Q I r h;obtain ⟨e,h⟩:=h;subst e
 cases r
 exact assignInOrder_nil ⟨σ,H,I,h⟩
theorem XB {e:Expr} {es:List Expr} {t:TG} {u:kO} (h1:PG X e t) (h2:uH X es u)
  (hs:(ib (e::es) X.env).map (·.2)=assign e X.env::(ib es X.env).map (·.2):=by rfl):uH X (e::es) (XD t u):=by
 intro pins s σ H vs us Q I r h;obtain ⟨v,vr,e1,h⟩:=h;subst e1
 cases r with
 | cons r rr =>
  rw [hs];refine assignInOrder_cons (aA (h1 pins s σ H _ _ _ I r h) λ_ s1 ⟨σ1,H1,I1,q1⟩=>?_);exact h2 pins s1 σ1 H1 _ _ Q I1 rr q1
def Vn (K:Θ) (n:Nat) (t:kO):TG:=λv σ H Q=>∃ a xs,v = .ref a/\aJ K H a xs/\xs.length=n/\t xs σ H Q
theorem V0 {es:List Expr} {k:Nat} {t:kO} {n:Nat} (hc:X.calm=true) (h:uH X es t)
  (hn:(ib es X.env).length=n:=by rfl) (hst:(ib es X.env).findIdx? (·.1)=none:=by rfl):PG X (.Tuple es k pos) (Vn X.K n t):=by
 intro pins s σ H v u Q I r hw;obtain ⟨a,xs,e1,hq,hl,hw⟩:=hw;subst e1
 cases r
 obtain ⟨its,rv,ht,hz⟩:=I.tuple hq;refine assign_Tuple_tuple (I.ok.hd hc) ht (by simp [hn,<- hl,rv.length]) hst λh' hx=>?_
 have I1:Inv X pins σ H { s with heap:=h' }:=I.kept (t':=s.toks) λb o e=>hx b o (ο (Ψ e)) e
 exact h pins _ σ H xs _ Q I1 (by simpa using rv) hw
def xg (to ti:TE) (t:Rk):TG:=λv σ H Q=>to σ H λo H1=>ti σ H1 λi H2=>t o i v H2 λH3=>Q σ H3
def uJ (te:TE) (g:TG):TS:=λD σ H=>te σ H λx H1=>g x σ H1 D.nx
theorem Yp {i:Nat} {x:Str} {e:Expr} {te:TE} {pos':Pos} (hN:X.N.Nodup) (hi:X.N[i]?=some x) (hx:Loc X.env.scope x) (he:PE X e te) (hs:swapsWith e (some (.Name x pos')) pos.line X.env=pure false:=by rfl) (hf:X.fn x=true\/X.env.scope.names.lookup x=some .local:=by first | exact .inl rfl | exact .inr rfl | assumption) :
  PS X (.Assign [.Name x pos'] e pos) (uJ te (Yv i)):=by
 intro pins s σ H D I h;refine wpAny_Assign_Name (aA (he pins s σ H _ I h) λv s1 ⟨y,H1,I1,r1,q1⟩=>?_) hs;exact VB I1 hN hi hx r1 (λs2 I2=>⟨_,H1,I2,q1⟩) hf
def sY (i:Nat) (te:TE) (ti:uI):TS:=λD σ H=>iB i σ λx=>te σ H λy H1=>ti x y H1 λz H2=>D.nx (σ.set i (some z)) H2
theorem U5 {i:Nat} {x:Str} {e:Expr} {te:TE} {op:Operator} {ti:uI} {pos':Pos} (hN:X.N.Nodup) (hi:X.N[i]?=some x) (hx:Loc X.env.scope x) (he:PE X e te) (ho:w6 X op ti) (hf:X.fn x=true\/X.env.scope.names.lookup x=some .local:=by first | exact .inl rfl | exact .inr rfl | assumption) :
  PS X (.AugAssign (.Name x pos') op e pos) (sY i te ti):=by
 intro pins s σ H D I h;obtain ⟨v,e1,h⟩:=wM h;obtain ⟨m,hn,hl⟩:=I.loc;have vis:pX X.env.scope x:=by rcases hx with k | k;exact .inl k;exact .inr (.inl k)
 obtain ⟨u,r,l⟩:=hl i x v hi e1 vis;refine wpAny_AugAssign_Name ?_;have go:Χ (Ω X.prog X.w) X.A (eval e X.env) (λw s₂=>Χ (Ω X.prog X.w) X.A (inplaceOp op u w) (λr s₃=>Χ (Ω X.prog X.w) X.A (storeName X.env x r) (λ_=>SP X pins D .next) X.xe s₃) X.xe s₂) X.xe s:=by
  refine aA (he pins s σ H _ I h) λw s1 ⟨y,H1,I1,r1,q1⟩=>?_
  refine aA (ho pins s1 σ H1 v y u w _ I1 r r1 q1) λz s2 ⟨zv,H2,I2,r2,q2⟩=>?_
  exact VB I2 hN hi hx r2 (λs3 I3=>⟨_,H2,I3,q2⟩) hf
 rcases l with ⟨hk,hm⟩ | ⟨hk,c,hc,hcell⟩
 ·exact wpAny_loadName_local I.ok.kind hk hn hm go
 ·rcases hk with hk | hk
  ·exact wpAny_loadName_cell I.ok.kind hk hc hcell go
  ·rcases hx with k | k
   ·have:X.env.scope.names.lookup x=some .free:=hk
    rw [k] at this;cases this
   ·have:X.env.scope.names.lookup x=some .free:=hk
    rw [k] at this;cases this
def uK (f:Int->Int->Int):uI:=λx y H Q=>kI x λi=>kI y λj=>Q (.int (f i j)) H
theorem kW {x y:V} {k:Int->Int->Prop} (h:kI x λi=>kI y λj=>k i j):∃ i j,x = .int i/\y = .int j/\k i j:=by
 obtain ⟨i,e,h⟩:=Qy.mp h;obtain ⟨j,e',h⟩:=Qy.mp h;exact ⟨i,j,e,e',h⟩
theorem Tf:w6 X .Add (uK λi j=>i+j):=by
 intro pins s σ H x y v u Q I r1 r2 h;obtain ⟨i,j,e1,e2,q⟩:=kW h;subst e1;subst e2;obtain ⟨t,rfl⟩:=r1;obtain ⟨t',rfl⟩:=r2;exact iadd_int ⟨.int _,H,I.tok _,⟨_,rfl⟩,q⟩
theorem xq:w6 X .Sub (uK λi j=>i - j):=by
 intro pins s σ H x y v u Q I r1 r2 h;obtain ⟨i,j,e1,e2,q⟩:=kW h;subst e1;subst e2;obtain ⟨t,rfl⟩:=r1;obtain ⟨t',rfl⟩:=r2;exact isub_int ⟨.int _,H,I.tok _,⟨_,rfl⟩,q⟩
def Ga (c:TT) (tb:TS):TS:=λD σ H=>∃ W:Nat->St->Hp->Prop,(∃ m,W m σ H)/\∀ m σ H,W m σ H ->
 c σ H λb H1=>if b=true then ∃ N:St->Hp->Prop,(∀ σ' H',N σ' H'->∃ m',m'<m/\W m' σ' H')/\tb { D with nx:=N,ct:=N,bk:=D.nx } σ H1 else D.nx σ H1
theorem W6 {c:Expr} {body:List Stmt} {tc:TT} {tb:TS} (hp:PassesOwn (Ω X.prog X.w) X.A X.env X.xe) (hc:PT X c tc) (hb:eN X body tb):PS X (.While c body [] pos) (Ga tc tb):=by
 intro pins s σ H D I h;obtain ⟨W,⟨m0,w0⟩,turn⟩:=h;refine wpAny_While (codeAny_whileLoop (λn s'=>∃ σ' H',Inv X pins σ' H' s'/\W n σ' H') ?_ m0 ⟨σ,H,I,w0⟩);rintro n s1 ⟨σ1,H1,I1,w1⟩;refine et hp (aA (hc pins s1 σ1 H1 _ I1 (turn n σ1 H1 w1)) λb s2 ⟨H2,I2,q2⟩=>?_)
 cases b with
 | true =>
  obtain ⟨N,hN,q2⟩:=q2;rw [if_pos rfl];refine et hp (aA (hb pins s2 σ1 H2 _ I2 q2) λf s3 q3=>?_)
  cases f with
  | next =>
   obtain ⟨σ3,H3,I3,n3⟩:=q3;obtain ⟨m',hm,w3⟩:=hN σ3 H3 n3;exact ⟨m',hm,σ3,H3,I3,w3⟩
  | cont =>
   obtain ⟨σ3,H3,I3,n3⟩:=q3;obtain ⟨m',hm,w3⟩:=hN σ3 H3 n3;exact ⟨m',hm,σ3,H3,I3,w3⟩
  | brk=>exact q3
  | ret v=>exact q3
 | false =>
  rw [if_neg τ];exact iO ⟨σ1,H2,I2,q2⟩
end
structure It where
 go:Nat->Hp->Prop
 jc:Nat->Hp->V->Hp->Prop
 stop:Nat->Hp->Prop
def X2 (X:Cx) (pins:List (Addr×Obj)) (H:Hp) (b:Addr):Prop :=
 H b=none/\b≠X.env.locals/\b∉X.fs/\(b∈X.ex\/X.s₀.heap.objs.size<=b)/\(∀ x c,X.env.cells.lookup x=some c->c≠b)/\∀ p∈X.pn++pins,p.1≠b
theorem Inv.iR {X:Cx} {pins:List (Addr×Obj)} {σ:St} {H H':Hp} {s:Ζ} {b:Addr} (I:Inv X pins σ H s) (hb:s.heap.objs.size<=b) (hn:H' b=none):X2 X pins H' b:=by
 refine ⟨hn,Nat.ne_of_gt (ξ I.lt hb),I.Rh hb,.inr (Τ I.sz hb),λx c e z=>?_,λp hp z=>?_⟩
 ·obtain ⟨v,q⟩:=I.cell x c e
  exact absurd (ξ q.lt (by rw [z];exact hb)) (cz _)
 ·exact absurd (ξ (Ψ (I.pin p hp).1) (by rw [z];exact hb)) (cz _)
structure Turn (P:δ) (w:ι) (K:Θ) (tg:Expr) (J:It) (fp:List Addr) (it:Addr) (tn:Nat->Heap->Prop):Prop where
 mem:it∈fp
 obj:∀ i h,tn i h->∀ b∈fp,∃ o,h.get? b=some o/\∀ v,o.data ≠ .cell v
 keep:∀ i h h',tn i h->(∀ b∈fp,∀ o,h.get? b=some o->h'.get? b=some o)->tn i h'
 item:∀ (X:Cx),X.prog=P->X.w=w->X.K=K->X.calm=true->∀ (i:Nat) (pins:List (Addr×Obj)) (s:Ζ) (σ:St) (H:Hp) (E:Α->Ζ->Prop),Inv X pins σ H s->(∀ b∈fp,X2 X pins H b)->tn i s.heap->J.go i H ->
  Χ (Ω P w) X.A (pyNext (.ref it)) (λr s1=>∃ u,r=some u /\
   Χ (Ω P w) X.A (fw tg (.ref it) u) (λ_ s2=>∃ x H',Inv X pins σ H' s2/\YB x u/\J.jc i H x H'/\tn (i+1) s2.heap/\∀ b∈fp,H' b=none) E s1) E s
 done:∀ (X:Cx),X.prog=P->X.w=w->X.K=K->X.calm=true->∀ (i:Nat) (pins:List (Addr×Obj)) (s:Ζ) (σ:St) (H:Hp) (E:Α->Ζ->Prop),Inv X pins σ H s->(∀ b∈fp,X2 X pins H b)->tn i s.heap->J.stop i H ->
  Χ (Ω P w) X.A (pyNext (.ref it)) (λr s1=>r=none/\Inv X pins σ H s1) E s
 self:∀ (A:ag) (i:Nat) (s:Ζ) (Q:Α->Ζ->Prop) (E:Α->Ζ->Prop),tn i s.heap->Q (.ref it) s->Χ (Ω P w) A (pyIter (.ref it)) Q E s
abbrev TI:=St->Hp->(It->Hp->Prop)->Prop
def PIE (X:Cx) (pins:List (Addr×Obj)) (σ:St) (tg:Expr) (R:It->Hp->Prop) (itv:Α) (s2:Ζ):Prop :=
 ∃ (it:Addr) (fp:List Addr) (tn:Nat->Heap->Prop) (J:It) (H':Hp),itv = .ref it/\Inv X pins σ H' s2/\Turn X.prog X.w X.K tg J fp it tn/\tn 0 s2.heap/\(∀ b∈fp,X2 X pins H' b)/\R J H'
def PI (X:Cx) (tg iter:Expr) (wi:TI):Prop :=
 ∀ (pins:List (Addr×Obj)) (s:Ζ) (σ:St) (H:Hp) (R:It->Hp->Prop),Inv X pins σ H s->wi σ H R ->
  Χ (Ω X.prog X.w) X.A (eval iter X.env) (λv s1=>Χ (Ω X.prog X.w) X.A (pyIter v) (PIE X pins σ tg R) X.xe s1) X.xe s
theorem U6 {M:Model} {A:ag} {E:Α->Ζ->Prop} {s:Ζ} {tg:Expr} {it:Addr} {u:Α} {o:Obj} {n:String} {vs:Array Α} {Q:Unit->Ζ->Prop} (ho:s.heap.get? it=some o) (hc:o.cls = .type n) (hd:o.data = .fields vs)
  (hn:["enumerate","zip","dict_itemiterator","dict_reverseitemiterator","odict_iterator","itertools.zip_longest","itertools.pairwise"].contains n=false) (hQ:Q () s):Χ M A (fw tg (.ref it) u) Q E s:=by
 unfold fw
 cases tg<;>first
  | exact Ρ hQ
  | (cases u<;>first
    | exact Ρ hQ
    | (refine Ι (wpAny_load ho ?_)
       rw [hc,hd]
       show Χ M A (if (["enumerate","zip","dict_itemiterator","dict_reverseitemiterator","odict_iterator","itertools.zip_longest","itertools.pairwise"].contains n&&vs[0]?==some (rawInt _))=true then _ else _) Q E s
       rw [if_neg (by intro h;rw [hn,Bool.false_and] at h;cases h)];exact Ρ hQ))
def mV (K:Θ) (a:Addr):It :=
 ⟨λi H=>∃ xs x,au K H a xs/\xs[i]?=some x,λi H x H'=>H'=H/\∀ xs,au K H a xs->xs[i]?=some x,λi H=>∃ xs,au K H a xs/\xs.length<=i⟩
def mW (K:Θ) (a:Addr):It :=
 ⟨λi H=>∃ xs x,aJ K H a xs/\xs[i]?=some x,λi H x H'=>H'=H/\∀ xs,aJ K H a xs->xs[i]?=some x,λi H=>∃ xs,aJ K H a xs/\xs.length<=i⟩
def je (lo:Int) (n:Nat):It:=⟨λi _=>i<n,λi H x H'=>H'=H/\x = .int (lo+i),λi _=>n<=i⟩
theorem Tg {P:δ} {w:ι} {K:Θ} {tg:Expr} (a it:Addr):Turn P w K tg (mV K a) [it] it (λi h=>h.IsListIter it a i) where
 mem:=by simp
 obj:=λi h st b hb=>by
  have e:b=it:=by simpa using hb
  subst e;obtain ⟨o,e,c,d⟩:=st;exact ⟨o,e,λv z=>by rw [d] at z;cases z⟩
 keep:=λi h h' st k=>st.at λo e=>k it (by simp) o e
 item:=by
  intro X hP hw hK hc i pins s σ H E I hf st hg;subst hP hw hK;obtain ⟨xs,x,hq,hx⟩:=hg;obtain ⟨its,rv,p,hz⟩:=I.list hq;obtain ⟨u,hu,ru⟩:=rv.get hx;obtain ⟨f0,f1,f2,f3,f4,f5⟩:=hf it (by simp);refine wpAny_pyNext_list_item st p.isList (x:=u) (by simpa using hu) λh' st' sb=>?_
  have I1:Inv X pins σ H { s with heap:=h' }:=I.turned (t':=s.toks) (λb o hb e=>(sb.2 b hb).trans e) f0 f1 f3 f4 f5;obtain ⟨o,e,c,d⟩:=id st';exact ⟨u,rfl,U6 (s:={ s with heap:=h' }) e c d (by decide) ⟨x,H,I1,ru,⟨rfl,λys hy=>by rw [I.kJ hy hq];exact hx⟩,st',λb hb=>(hf b hb).1⟩⟩
 done:=by
  intro X hP hw hK hc i pins s σ H E I hf st hg;subst hP hw hK;obtain ⟨xs,hq,hx⟩:=hg;obtain ⟨its,rv,p,hz⟩:=I.list hq;obtain ⟨f0,f1,f2,f3,f4,f5⟩:=hf it (by simp);have hl:=rv.length;exact wpAny_pyNext_list_end (I.ok.hd hc) st p.isList (by simp;omega) λh' eb=>⟨rfl,I.turned (t':=s.toks) (λb o hb e=>eb b o hb e) f0 f1 f3 f4 f5⟩
 self:=λ_ _ _ _ _ st h=>wpAny_pyIter_listiter st h
theorem Ti {P:δ} {w:ι} {K:Θ} {tg:Expr} (a it:Addr):Turn P w K tg (mW K a) [it] it (λi h=>h.IsTupleIter it a i) where
 mem:=by simp
 obj:=λi h st b hb=>by
  have e:b=it:=by simpa using hb
  subst e;obtain ⟨o,e,c,d⟩:=st;exact ⟨o,e,λv z=>by rw [d] at z;cases z⟩
 keep:=λi h h' st k=>st.at λo e=>k it (by simp) o e
 item:=by
  intro X hP hw hK hc i pins s σ H E I hf st hg;subst hP hw hK;obtain ⟨xs,x,hq,hx⟩:=hg;obtain ⟨its,rv,p,hz⟩:=I.tuple hq;obtain ⟨u,hu,ru⟩:=rv.get hx;obtain ⟨f0,f1,f2,f3,f4,f5⟩:=hf it (by simp);refine wpAny_pyNext_tuple_item st (show s.heap.IsTuple a its.toArray from p) (x:=u) (by simpa using hu) λh' st' sb=>?_
  have I1:Inv X pins σ H { s with heap:=h' }:=I.turned (t':=s.toks) (λb o hb e=>(sb.2 b hb).trans e) f0 f1 f3 f4 f5;obtain ⟨o,e,c,d⟩:=id st';exact ⟨u,rfl,U6 (s:={ s with heap:=h' }) e c d (by decide) ⟨x,H,I1,ru,⟨rfl,λys hy=>by rw [I.pZ hy hq];exact hx⟩,st',λb hb=>(hf b hb).1⟩⟩
 done:=by
  intro X hP hw hK hc i pins s σ H E I hf st hg;subst hP hw hK;obtain ⟨xs,hq,hx⟩:=hg;obtain ⟨its,rv,p,hz⟩:=I.tuple hq;obtain ⟨f0,f1,f2,f3,f4,f5⟩:=hf it (by simp);have hl:=rv.length;exact wpAny_pyNext_tuple_end (I.ok.hd hc) st (show s.heap.IsTuple a its.toArray from p) (by simp;omega) λh' eb=>⟨rfl,I.turned (t':=s.toks) (λb o hb e=>eb b o hb e) f0 f1 f3 f4 f5⟩
 self:=λ_ _ _ _ _ st h=>wpAny_pyIter_tupleiter st h
theorem Tj {P:δ} {w:ι} {K:Θ} {tg:Expr} (it:Addr) (lo:Int) (n:Nat):Turn P w K tg (je lo n) [it] it (λi h=>IsRangeIter h it (lo+(i:Nat)*1) ((n:Int) - (i:Nat)) 1) where
 mem:=by simp
 obj:=λi h st b hb=>by
  have e:b=it:=by simpa using hb
  subst e;exact ⟨_,st,λv z=>by
   have z':Data.fields _=Data.cell v:=z
   cases z'⟩
 keep:=λi h h' st k=>k it (by simp) _ st
 item:=by
  intro X hP hw hK hc i pins s σ H E I hf st hg;subst hP hw hK;obtain ⟨f0,f1,f2,f3,f4,f5⟩:=hf it (by simp);have W:=Walks.range (prog:=X.prog) (w:=X.w) (I.ok.hd hc) it lo 1 n;refine W.item i s _ _ hg st λv h' tk hv st' kk=>?_
  obtain ⟨t,rfl⟩:=hv;have I1:Inv X pins σ H { s with heap:=h',toks:=tk }:=I.turned (λb o hb e=>kk b o (by simpa using hb) e) f0 f1 f3 f4 f5;refine ⟨_,rfl,U6 (s:={ s with heap:=h',toks:=tk }) (n:="range_iterator") st' rfl rfl (by decide) ⟨.int (lo+i),H,I1,⟨t,?_⟩,⟨rfl,rfl⟩,st',λb hb=>(hf b hb).1⟩⟩;rw [Int.mul_one]
 done:=by
  intro X hP hw hK hc i pins s σ H E I hf st hg;subst hP hw hK;obtain ⟨f0,f1,f2,f3,f4,f5⟩:=hf it (by simp);exact wpAny_pyNext_range_end (I.ok.hd hc) st (by have:n<=i:=hg;omega) λh' eb=>⟨rfl,I.turned (t':=s.toks) (λb o hb e=>eb b o hb e) f0 f1 f3 f4 f5⟩
 self:=λ_ _ _ _ _ st h=>wpAny_pyIter_rangeiter st h
section
variable {X:Cx} {tg:Expr}
def Wf (K:Θ) (tl:TE):TI:=λσ H R=>tl σ H λx H1=>∃ a,x = .ref a/\(∃ xs,au K H1 a xs)/\R (mV K a) H1
def uL (K:Θ) (tl:TE):TI:=λσ H R=>tl σ H λx H1=>∃ a,x = .ref a/\(∃ xs,aJ K H1 a xs)/\R (mW K a) H1
theorem Xl {l:Expr} {tl:TE} (hl:PE X l tl):PI X tg l (Wf X.K tl):=by
 intro pins s σ H R I h;refine aA (hl pins s σ H _ I h) λv s1 ⟨x,H1,I1,r1,q1⟩=>?_
 obtain ⟨a,e,⟨xs,hq⟩,q⟩:=q1;subst e
 cases r1
 obtain ⟨its,rv,p,hz⟩:=I1.list hq;refine wpAny_pyIter_list p.isList ?_;refine ⟨s1.heap.objs.size,[s1.heap.objs.size],_,_,H1,rfl,I1.kept (t':=s1.toks) λb o e=>Ο _ e,Tg a _,⟨_,af _ rfl,rfl,rfl⟩,λb hb=>?_,q⟩;have e:b=s1.heap.objs.size:=by simpa using hb
 subst e;exact I1.iR (Κ _) (I1.hok.fresh (Κ _))
theorem U7 {l:Expr} {tl:TE} (hl:PE X l tl):PI X tg l (uL X.K tl):=by
 intro pins s σ H R I h;refine aA (hl pins s σ H _ I h) λv s1 ⟨x,H1,I1,r1,q1⟩=>?_
 obtain ⟨a,e,⟨xs,hq⟩,q⟩:=q1;subst e
 cases r1
 obtain ⟨its,rv,p,hz⟩:=I1.tuple hq;refine wpAny_pyIter_tuple (show s1.heap.IsTuple a its.toArray from p) ?_;refine ⟨s1.heap.objs.size,[s1.heap.objs.size],_,_,H1,rfl,I1.kept (t':=s1.toks) λb o e=>Ο _ e,Ti a _,⟨_,af _ rfl,rfl,rfl⟩,λb hb=>?_,q⟩;have e:b=s1.heap.objs.size:=by simpa using hb
 subst e;exact I1.iR (Κ _) (I1.hok.fresh (Κ _))
theorem Gb {pins:List (Addr×Obj)} {σ:St} {H:Hp} {s:Ζ} {R:It->Hp->Prop} {E:Α->Ζ->Prop} {lo hi:Int} {t u v:Tok} {tk:Nat} (I:Inv X pins σ H s) (h1 : -(2^62)<=lo) (h2:lo<2^62) (h3 : -(2^62)<=hi) (h4:hi<2^62)
  (q:R (je lo (hi - lo).toNat) H):Χ (Ω X.prog X.w) X.A (pyIter (.ref s.heap.objs.size)) (PIE X pins σ tg R) E { s with heap:=s.heap.push { cls := .type "range",data := .fields #[.int lo t,.int hi u,.int 1 v] },toks:=tk }:=by
 refine wpAny_pyIter_range (IsRange.new ..) (small_one h1 h2 h3 h4) ?_;have I1:Inv X pins σ H { s with heap:=s.heap.push { cls := .type "range",data := .fields #[.int lo t,.int hi u,.int 1 v] },toks:=tk }:=I.kept λb o e=>Ο _ e
 refine ⟨(s.heap.push { cls := .type "range",data := .fields #[.int lo t,.int hi u,.int 1 v] }).objs.size,[(s.heap.push { cls := .type "range",data := .fields #[.int lo t,.int hi u,.int 1 v] }).objs.size],_,_,H,rfl,
  I1.kept (t':=tk) λb o e=>Ο _ e,Tj _ lo (hi - lo).toNat,?_,λb hb=>?_,q⟩
 ·have e1:lo+((0:Nat):Int)*1=lo:=by simp
  have e2:(((hi - lo).toNat:Nat):Int) - ((0:Nat):Int)=dS lo hi 1:=by rw [rangeSize_one];split<;>omega
  show IsRangeIter _ _ (lo+((0:Nat):Int)*1) ((((hi - lo).toNat:Nat):Int) - ((0:Nat):Int)) 1
  rw [e1,e2];exact af _ rfl
 ·have e:b=(s.heap.push { cls := .type "range",data := .fields #[.int lo t,.int hi u,.int 1 v] }).objs.size:=by simpa using hb
  subst e;exact I1.iR (Κ _) (I1.hok.fresh (Κ _))
def Uq (ta:TA):TI:=λσ H R=>ta σ H λvs H1=>∃ j:Int,vs=[.int j] /\ -(2^62)<=j/\j<2^62/\R (je 0 j.toNat) H1
def Gd (ta:TA):TI:=λσ H R=>ta σ H λvs H1=>∃ i j:Int,vs=[.int i,.int j]/\(-(2^62)<=i/\i<2^62 /\ -(2^62)<=j/\j<2^62)/\R (je i (j - i).toNat) H1
theorem Y2 {a:Expr} {ta:TA} {p pos:Pos} (hg:Gl X "range") (hm:X.mg "range"=none) (ha:PA X [a] ta) (hs:η [a] X.env=[(false,eval a X.env)]:=by rfl):PI X tg (.Call (.Name "range" p) [a] [] pos) (Uq ta):=by
 intro pins s σ H R I h;refine Call_ (W3 I hg hm boot_range (cS (aA (ha pos pins s σ H _ I h) λus s1 ⟨vs,H1,I1,r1,q1⟩=>?_) hs rfl));obtain ⟨j,e,q1,q2,q⟩:=q1;subst e
 cases r1 with
 | cons r rr =>
  cases rr
  obtain ⟨t,rfl⟩:=r;exact call_range_1 (Gb I1 (by omega) (by omega) q1 q2 (by simpa using q))
theorem Tn {a b:Expr} {ta:TA} {p pos:Pos} (hg:Gl X "range") (hm:X.mg "range"=none) (ha:PA X [a,b] ta) (hs:η [a,b] X.env=[(false,eval a X.env),(false,eval b X.env)]) (hs2:η [b] X.env=[(false,eval b X.env)]) :
  PI X tg (.Call (.Name "range" p) [a,b] [] pos) (Gd ta):=by
 intro pins s σ H R I h;refine Call_ (W3 I hg hm boot_range (cS (aA (ha pos pins s σ H _ I h) λus s1 ⟨vs,H1,I1,r1,q1⟩=>?_) (by rw [hs,hs2]) (by rw [hs2];rfl)));obtain ⟨i,j,e,⟨q1,q2,q3,q4⟩,q⟩:=q1;subst e
 cases r1 with
 | cons r rr =>
  cases rr with
  | cons r' rr =>
   cases rr
   obtain ⟨t,rfl⟩:=r;obtain ⟨t',rfl⟩:=r';exact call_range_2 (Gb I1 q1 q2 q3 q4 q)
def UL (wi:TI) (g:TG) (tb:TS):TS:=λD σ H=>wi σ H λJ H1=>∃ W:Nat->Nat->St->Hp->Prop,(∃ m,W 0 m σ H1)/\∀ i m σ H,W i m σ H ->
 (J.stop i H/\D.nx σ H)\/(J.go i H/\∃ N:St->Hp->Prop,(∀ σ' H',N σ' H'->∃ m',m'<m/\W (i+1) m' σ' H')/\∀ x H',J.jc i H x H'->g x σ H' λσ2 H2=>tb { D with nx:=N,ct:=N,bk:=D.nx } σ2 H2)
def Vr (fp:List Addr) (h:Heap):List (Addr×Obj):=fp.filterMap λb=>(h.get? b).map λo=>(b,o)
theorem XM {fp:List Addr} {h:Heap} {b:Addr} {o:Obj} (hb:b∈fp) (e:h.get? b=some o):(b,o)∈Vr fp h:=List.mem_filterMap.mpr ⟨b,hb,by rw [e];rfl⟩
theorem Tp {fp:List Addr} {h:Heap} {p:Addr×Obj} (hp:p∈Vr fp h):p.1∈fp/\h.get? p.1=some p.2:=by
 obtain ⟨b,hb,e⟩:=List.mem_filterMap.mp hp
 cases q:h.get? b with
 | none=>rw [q] at e;cases e
 | some o =>
  rw [q] at e
  have e':(b,o)=p:=Δ e;subst e';exact ⟨hb,q⟩
theorem Inv.pinned {pins:List (Addr×Obj)} {σ:St} {H:Hp} {s:Ζ} {fp:List Addr} (I:Inv X pins σ H s) (hf:∀ b∈fp,X2 X pins H b) (ho:∀ b∈fp,∃ o,s.heap.get? b=some o/\∀ v,o.data ≠ .cell v):Inv X (pins++Vr fp s.heap) σ H s :=
 I.mU λp hp=>(a6.mp hp).elim (λz=>I.pin p (υ _ z)) λz=>by
  obtain ⟨hb,e⟩:=Tp z;obtain ⟨f0,f1,f2,_⟩:=hf p.1 hb;obtain ⟨o,e',d⟩:=ho p.1 hb;rw [e] at e';cases e'
  exact ⟨e,f0,f1,f2,d⟩
theorem Inv.dH {pins pl:List (Addr×Obj)} {σ:St} {H:Hp} {s:Ζ} (I:Inv X (pins++pl) σ H s):Inv X pins σ H s:=I.mU λp hp=>I.pin p (υ _ (gt _ hp))
theorem Xt {iter:Expr} {body:List Stmt} {wi:TI} {g:TG} {tb:TS} {pos:Pos} (hp:PassesOwn (Ω X.prog X.w) X.A X.env X.xe) (hc:X.calm=true) (hi:PI X tg iter wi) (hg:PG X tg g) (hb:eN X body tb)
  (hs:∀ x,ii iter X.env x=pure x:=by intro _;rfl):PS X (.For tg iter body [] pos) (UL wi g tb):=by
 intro pins s σ H D I h;refine wpAny_For (aA (hi pins s σ H _ I h) λv s1 h1=>aA h1 λitv s2 h2=>?_) hs;obtain ⟨it,fp,tn,J,H2,e,I2,T,st2,f2,W,⟨m0,w0⟩,turn⟩:=h2;subst e
 -- what stays true of the iterator's objects through the loop
 have stat:∀ {H':Hp},(∀ b∈fp,H' b=none)->∀ b∈fp,X2 X pins H' b:=λhn b hb=>⟨hn b hb,(f2 b hb).2⟩
 refine codeAny_forLoop_any (λn s'=>∃ i σ' H',Inv X pins σ' H' s'/\tn i s'.heap/\(∀ b∈fp,H' b=none)/\W i n σ' H') ?_ m0 ⟨0,σ,H2,I2,st2,λb hb=>(f2 b hb).1,w0⟩;rintro n s3 ⟨i,σ3,H3,I3,st3,uM,w3⟩;rcases turn i n σ3 H3 w3 with ⟨stop,qn⟩ | ⟨go,N,hN,step⟩
 ·refine et hp (aA (T.done X rfl rfl rfl hc i pins s3 σ3 H3 X.xe I3 (stat uM) st3 stop) λr s4 ⟨hr,I4⟩=>?_)
  subst hr;exact iO ⟨σ3,H3,I4,qn⟩
 ·refine et hp (aA (T.item X rfl rfl rfl hc i pins s3 σ3 H3 X.xe I3 (stat uM) st3 go) λr s4 ⟨u,hr,h4⟩=>?_)
  subst hr;refine et hp (aA h4 λ_ s5 ⟨x,H5,I5,r5,y5,jf,kY⟩=>?_);have Tq:=I5.pinned (stat kY) (T.obj _ _ jf);refine et hp (aA (hg _ s5 σ3 H5 x u _ Tq r5 (step x H5 y5)) λ_ s6 ⟨Tt,H6,I6,q6⟩=>?_);refine et hp (aA (hb _ s6 Tt H6 _ I6 q6) λf s7 q7=>?_);have again:∀ {fL:St} {H7:Hp},Inv X (pins++Vr fp s5.heap) fL H7 s7->N fL H7->∃ m,m<n/\∃ i σ' H',Inv X pins σ' H' s7/\tn i s7.heap/\(∀ b∈fp,H' b=none)/\W i m σ' H':=λ{fL H7} I7 n7=>by
   obtain ⟨m',hm,w7⟩:=hN fL H7 n7;refine ⟨m',hm,i+1,fL,H7,I7.dH,T.keep _ _ _ jf λb hb o e=>(I7.pin (b,o) (υ _ (υ _ (XM hb e)))).1,λb hb=>?_,w7⟩;obtain ⟨o,e,d⟩:=T.obj _ _ jf b hb;exact (I7.pin (b,o) (υ _ (υ _ (XM hb e)))).2.1
  cases f with
  | next=>obtain ⟨fL,H7,I7,n7⟩:=q7;exact again I7 n7
  | cont=>obtain ⟨fL,H7,I7,n7⟩:=q7;exact again I7 n7
  | brk=>obtain ⟨fL,H7,I7,q7⟩:=q7;exact ⟨fL,H7,I7.dH,q7⟩
  | ret v=>obtain ⟨x7,fL,H7,I7,r7,q7⟩:=q7;exact ⟨x7,fL,H7,I7.dH,r7,q7⟩
end
theorem Ge {K:Θ} {a:Addr} {xs:List V} {g:TG} {tb:TS} {D:Ends} {σ:St} {H:Hp} (Pv:Nat->St->Hp->Prop) (h0:Pv 0 σ H) (hl:∀ i σ H,i<=xs.length->Pv i σ H->au K H a xs)
  (hs:∀ i x σ H,xs[i]?=some x->Pv i σ H->g x σ H λσ2 H2=>tb { D with nx:=Pv (i+1),ct:=Pv (i+1),bk:=D.nx } σ2 H2) (hd:∀ σ H,Pv xs.length σ H->D.nx σ H) :
  ∃ W:Nat->Nat->St->Hp->Prop,(∃ m,W 0 m σ H)/\∀ i m σ H,W i m σ H ->
   ((mV K a).stop i H/\D.nx σ H)\/((mV K a).go i H/\∃ N:St->Hp->Prop,(∀ σ' H',N σ' H'->∃ m',m'<m/\W (i+1) m' σ' H')/\∀ x H',(mV K a).jc i H x H'->g x σ H' λσ2 H2=>tb { D with nx:=N,ct:=N,bk:=D.nx } σ2 H2):=by
 refine ⟨λi m σ H=>m=xs.length - i/\i<=xs.length/\Pv i σ H,⟨xs.length,by simp,ν _,h0⟩,?_⟩;rintro i m σ H ⟨rfl,hi,p⟩;have q:=hl i σ H hi p;by_cases hlt:i<xs.length
 ·refine .inr ⟨⟨xs,xs[i],q,by simp [hlt]⟩,Pv (i+1),λσ' H' p'=>⟨xs.length - (i+1),by omega,rfl,hlt,p'⟩,λx H' y=>?_⟩
  obtain ⟨e,y⟩:=y;subst e;exact hs i x σ _ (y xs q) p
 ·have e:i=xs.length:=by omega
  subst e;exact .inl ⟨⟨xs,q,Κ _⟩,hd σ H p⟩
theorem Tv {K:Θ} {a:Addr} {xs:List V} {g:TG} {tb:TS} {D:Ends} {σ:St} {H:Hp} (Pv:Nat->St->Hp->Prop) (h0:Pv 0 σ H) (hl:∀ i σ H,i<=xs.length->Pv i σ H->aJ K H a xs)
  (hs:∀ i x σ H,xs[i]?=some x->Pv i σ H->g x σ H λσ2 H2=>tb { D with nx:=Pv (i+1),ct:=Pv (i+1),bk:=D.nx } σ2 H2) (hd:∀ σ H,Pv xs.length σ H->D.nx σ H) :
  ∃ W:Nat->Nat->St->Hp->Prop,(∃ m,W 0 m σ H)/\∀ i m σ H,W i m σ H ->
   ((mW K a).stop i H/\D.nx σ H)\/((mW K a).go i H/\∃ N:St->Hp->Prop,(∀ σ' H',N σ' H'->∃ m',m'<m/\W (i+1) m' σ' H')/\∀ x H',(mW K a).jc i H x H'->g x σ H' λσ2 H2=>tb { D with nx:=N,ct:=N,bk:=D.nx } σ2 H2):=by
 refine ⟨λi m σ H=>m=xs.length - i/\i<=xs.length/\Pv i σ H,⟨xs.length,by simp,ν _,h0⟩,?_⟩;rintro i m σ H ⟨rfl,hi,p⟩;have q:=hl i σ H hi p;by_cases hlt:i<xs.length
 ·refine .inr ⟨⟨xs,xs[i],q,by simp [hlt]⟩,Pv (i+1),λσ' H' p'=>⟨xs.length - (i+1),by omega,rfl,hlt,p'⟩,λx H' y=>?_⟩
  obtain ⟨e,y⟩:=y;subst e;exact hs i x σ _ (y xs q) p
 ·have e:i=xs.length:=by omega
  subst e;exact .inl ⟨⟨xs,q,Κ _⟩,hd σ H p⟩
theorem Tw {lo:Int} {n:Nat} {g:TG} {tb:TS} {D:Ends} {σ:St} {H:Hp} (Pv:Nat->St->Hp->Prop) (h0:Pv 0 σ H)
  (hs:∀ i σ H,i<n->Pv i σ H->g (.int (lo+i)) σ H λσ2 H2=>tb { D with nx:=Pv (i+1),ct:=Pv (i+1),bk:=D.nx } σ2 H2) (hd:∀ σ H,Pv n σ H->D.nx σ H) :
  ∃ W:Nat->Nat->St->Hp->Prop,(∃ m,W 0 m σ H)/\∀ i m σ H,W i m σ H ->
   ((je lo n).stop i H/\D.nx σ H)\/((je lo n).go i H/\∃ N:St->Hp->Prop,(∀ σ' H',N σ' H'->∃ m',m'<m/\W (i+1) m' σ' H')/\∀ x H',(je lo n).jc i H x H'->g x σ H' λσ2 H2=>tb { D with nx:=N,ct:=N,bk:=D.nx } σ2 H2):=by
 refine ⟨λi m σ H=>m=n - i/\i<=n/\Pv i σ H,⟨n,by simp,ν _,h0⟩,?_⟩;rintro i m σ H ⟨rfl,hi,p⟩;by_cases hlt:i<n
 ·refine .inr ⟨hlt,Pv (i+1),λσ' H' p'=>⟨n - (i+1),by omega,rfl,hlt,p'⟩,λx H' y=>?_⟩
  obtain ⟨e,y⟩:=y;subst e y;exact hs i σ _ hlt p
 ·have e:i=n:=by omega
  subst e;exact .inl ⟨Κ _,hd σ H p⟩
abbrev R2:=V->V->Hp->VK->Prop
def bM (X:Cx) (f:Α->Α->Sem Α) (r:R2):Prop :=
 ∀ (pins:List (Addr×Obj)) (s:Ζ) (σ:St) (H:Hp) (x y:V) (v u:Α) (Q:VK),Inv X pins σ H s->YB x v->YB y u->r x y H Q ->
  Χ (Ω X.prog X.w) X.A (f v u) (EP X pins σ Q) X.xe s
def xr (X:Cx) (f:Α->Sem Α) (r:V->Hp->VK->Prop):Prop :=
 ∀ (pins:List (Addr×Obj)) (s:Ζ) (σ:St) (H:Hp) (x:V) (v:Α) (Q:VK),Inv X pins σ H s->YB x v->r x H Q ->
  Χ (Ω X.prog X.w) X.A (f v) (EP X pins σ Q) X.xe s
def XU (X:Cx) (f:Α) (r:List V->Hp->VK->Prop):Prop :=
 ∀ (pins:List (Addr×Obj)) (s:Ζ) (σ:St) (H:Hp) (xs:List V) (us:List Α) (Q:VK),Inv X pins σ H s->Yt xs us->r xs H Q ->
  Χ (Ω X.prog X.w) X.A (call f us) (EP X pins σ Q) X.xe s
def mX (r:R2) (ta tb:TE):TE:=λσ H Q=>ta σ H λx H1=>tb σ H1 λy H2=>r x y H2 Q
def xu (r:V->Hp->VK->Prop) (ta:TE):TE:=λσ H Q=>ta σ H λx H1=>r x H1 Q
def rI (C:Int->Int->Prop) (g:Int->Int->V):R2:=λx y H Q=>kI x λi=>kI y λj=>C i j/\Q (g i j) H
def iD (g:Int->Int->V):R2:=λx y H Q=>kI x λi=>kI y λj=>Q (g i j) H
def rU (g:Int->V):V->Hp->VK->Prop:=λx H Q=>kI x λi=>Q (g i) H
section
variable {X:Cx} {a b c:Expr} {ta tb tc:TE} {pos:Pos}
theorem sZ (ha:PE X a ta) (hb:PE X b tb) {pins:List (Addr×Obj)} {s:Ζ} {σ:St} {H:Hp} {R:V->V->Hp->Prop} (I:Inv X pins σ H s)
  (h:ta σ H λx H1=>tb σ H1 λy H2=>R x y H2) {Q:Α->Ζ->Prop} {f:Α->Α->Sem Α}
  (hf:∀ v u s2 x y H2,Inv X pins σ H2 s2->YB x v->YB y u->R x y H2->Χ (Ω X.prog X.w) X.A (f v u) Q X.xe s2) :
  Χ (Ω X.prog X.w) X.A (eval a X.env) (λv s₁=>Χ (Ω X.prog X.w) X.A (eval b X.env) (λu s₂=>Χ (Ω X.prog X.w) X.A (f v u) Q X.xe s₂) X.xe s₁) X.xe s:=by
 refine aA (ha pins s σ H _ I h) λv s1 ⟨x,H1,I1,r1,q1⟩=>?_
 refine aA (hb pins s1 σ H1 _ I1 q1) λu s2 ⟨y,H2,I2,r2,q2⟩=>?_
 exact hf v u s2 x y H2 I2 r1 r2 q2
theorem Ym {op:Operator} {r:R2} (ho:bM X (di op) r) (ha:PE X a ta) (hb:PE X b tb):PE X (.BinOp a op b pos) (mX r ta tb):=by
 intro pins s σ H Q I h;exact wpAny_BinOp (sZ ha hb I h λv u s2 x y H2 I2 rx ry q=>ho pins s2 σ H2 x y v u Q I2 rx ry q)
theorem Ur {op:UnaryOp} {r:V->Hp->VK->Prop} (ho:xr X (unaryOp op) r) (ha:PE X a ta):PE X (.UnaryOp op a pos) (xu r ta):=by
 intro pins s σ H Q I h;exact UnaryOp_ (aA (ha pins s σ H _ I h) λv s1 ⟨x,H1,I1,r1,q1⟩=>ho pins s1 σ H1 x v Q I1 r1 q1)
theorem mY {f:Α->Α->Sem Α} {C:Int->Int->Prop} {g:Int->Int->Int}
  (rule:∀ (i j:Int) (t u:Tok) (s:Ζ) (Q:Α->Ζ->Prop) (E:Α->Ζ->Prop),C i j->Q (.int (g i j) s.toks) { s with toks:=s.toks+1 }->Χ (Ω X.prog X.w) X.A (f (.int i t) (.int j u)) Q E s) :
  bM X f (rI C λi j => .int (g i j)):=by
 intro pins s σ H x y v u Q I rx ry h
 replace h:=kW h
 obtain ⟨i,j,rfl,rfl,hc,q⟩:=h;obtain ⟨t,rfl⟩:=rx;obtain ⟨t',rfl⟩:=ry;exact rule i j t t' s _ _ hc ⟨.int (g i j),H,I.tok _,⟨_,rfl⟩,q⟩
theorem xG {f:Α->Α->Sem Α} {g:Int->Int->Int}
  (rule:∀ (i j:Int) (t u:Tok) (s:Ζ) (Q:Α->Ζ->Prop) (E:Α->Ζ->Prop),Q (.int (g i j) s.toks) { s with toks:=s.toks+1 }->Χ (Ω X.prog X.w) X.A (f (.int i t) (.int j u)) Q E s) :
  bM X f (iD λi j => .int (g i j)):=by
 intro pins s σ H x y v u Q I rx ry h
 replace h:=kW h
 obtain ⟨i,j,rfl,rfl,q⟩:=h;obtain ⟨t,rfl⟩:=rx;obtain ⟨t',rfl⟩:=ry;exact rule i j t t' s _ _ ⟨.int (g i j),H,I.tok _,⟨_,rfl⟩,q⟩
theorem uN {f:Α->Α->Sem Α} {g:Int->Int->Bool}
  (rule:∀ (i j:Int) (t u:Tok) (s:Ζ) (Q:Α->Ζ->Prop) (E:Α->Ζ->Prop),Q (.bool (g i j)) s->Χ (Ω X.prog X.w) X.A (f (.int i t) (.int j u)) Q E s) :
  bM X f (iD λi j => .bl (g i j)):=by
 intro pins s σ H x y v u Q I rx ry h
 replace h:=kW h
 obtain ⟨i,j,rfl,rfl,q⟩:=h;obtain ⟨t,rfl⟩:=rx;obtain ⟨t',rfl⟩:=ry;exact rule i j t t' s _ _ ⟨.bl (g i j),H,I,rfl,q⟩
def tu (i j:Int):Prop:=0<=j/\j<=1000000/\i.natAbs<2^64
def tD (i j:Int):Prop:=(-(2^64)<i/\i<2^64)\/(-(2^64)<j/\j<2^64)
theorem tD.ok {i j:Int} (h:tD i j):IntMulOk i j:=by
 rcases h with ⟨h1,h2⟩ | ⟨h1,h2⟩
 ·exact .of_left (intBits_le_64 h1 h2)
 ·exact .of_right (intBits_le_64 h1 h2)
theorem Tz (k:Nat):(0:Int)<=2^k:=by
 rw [two_pow_cast];exact fI _
theorem YZ:bM X (di .Add) (iD λi j => .int (i+j)):=xG λ_ _ _ _ _ _ _ q=>add_int q
theorem Y3:bM X (di .Sub) (iD λi j => .int (i - j)):=xG λ_ _ _ _ _ _ _ q=>sub_int q
theorem Xg:bM X (di .Mod) (rI (λ_ j=>0<j) λi j => .int (i%j)):=mY λi j _ _ _ _ _ hc q=>by
 have h1:(0:Int)<j:=hc;exact mod_int' (by omega) (by rw [Int.fmod_eq_emod_of_nonneg i (by omega)];exact q)
theorem Gf:bM X (di .Pow) (rI tu λi j => .int (i^j.toNat)):=mY λ_ _ _ _ _ _ _ hc q=>pow_int_small hc.1 hc.2.1 hc.2.2 q
theorem Gg:bM X (di .LShift) (rI tu λi j => .int (i*2^j.toNat)):=mY λ_ _ _ _ _ _ _ hc q=>lshift_int_small hc.1 hc.2.1 hc.2.2 q
theorem TF:bM X (di .RShift) (rI (λ_ j=>0<=j) λi j => .int (i / 2^j.toNat)):=mY λi j _ _ _ _ _ hc q =>
 rshift_int hc (by rw [Int.fdiv_eq_ediv_of_nonneg i (Tz _)];exact q)
theorem TJ {f:Α->Sem Α} {g:Int->Int}
  (rule:∀ (i:Int) (t:Tok) (s:Ζ) (Q:Α->Ζ->Prop) (E:Α->Ζ->Prop),Q (.int (g i) s.toks) { s with toks:=s.toks+1 }->Χ (Ω X.prog X.w) X.A (f (.int i t)) Q E s) :
  xr X f (rU λi => .int (g i)):=by
 intro pins s σ H x v Q I rx h;obtain ⟨i,rfl,q⟩:=Qy.mp h;obtain ⟨t,rfl⟩:=rx;exact rule i t s _ _ ⟨.int (g i),H,I.tok _,⟨_,rfl⟩,q⟩
theorem Vs:xr X (unaryOp .USub) (rU λi => .int (-i)):=TJ λ_ _ _ _ _ q=>neg_int q
end
def Qz:V->V->Bool
 | .non,.non=>true | .non,.int _=>true | .int _,.non=>true | .non,.bl _=>true | .bl _,.non=>true | .non,.str _=>true | .str _,.non=>true
 | .int _,.int _=>true | .bl _,.bl _=>true | .str _,.str _=>true | .gw _,.gw _=>true
 | .int _,.str _=>true | .str _,.int _=>true | .bl _,.str _=>true | .str _,.bl _=>true
 | _,_=>false
def kEq (x y:V) (k:Bool->Prop):Prop:=match x,y with
 | .int i,.int j=>k (decide (i=j))
 | .str i,.str j=>k (decide (i=j))
 | x,y=>Qz x y=true/\k (decide (x=y))
theorem Gh (i j:Int) (k:Bool->Prop):kEq (.int i) (.int j) k=k (decide (i=j)):=rfl
theorem Gi (i j:Str) (k:Bool->Prop):kEq (.str i) (.str j) k=k (decide (i=j)):=rfl
theorem xH {x y:V} {k:Bool->Prop}:kEq x y k↔Qz x y=true/\k (decide (x=y)):=by
 unfold kEq
 split
 ·rename_i i j
  rw [show decide (V.int i=V.int j)=decide (i=j) from by simp];exact ⟨λh=>⟨rfl,h⟩,λh=>h.2⟩
 ·rename_i i j
  rw [show decide (V.str i=V.str j)=decide (i=j) from by simp];exact ⟨λh=>⟨rfl,h⟩,λh=>h.2⟩
 ·exact Iff.rfl
def xJ:R2:=λx y H Q=>kEq x y λb=>Q (.bl b) H
def xK:R2:=λx y H Q=>kEq x y λb=>Q (.bl (!b)) H
theorem Gj {i j:Int}:decide (V.int i=V.int j)=(i==j):=by
 rw [i3];simp
theorem Gk {i j:Bool}:decide (V.bl i=V.bl j)=(i==j):=by
 rw [i3];simp
theorem Gm {i j:Str}:decide (V.str i=V.str j)=(i==j):=by
 rw [i3];simp
theorem Gn {i j:Array UInt8}:decide (V.gw i=V.gw j)=(i.toList==j.toList):=by
 rw [i3]
 cases i
 cases j
 simp
section
variable {X:Cx} {a b c:Expr} {ta tb tc:TE} {pos:Pos}
theorem YK {pins:List (Addr×Obj)} {σ:St} {H:Hp} {s:Ζ} {Q:VK} {k k':Bool} (I:Inv X pins σ H s) (q:Q (.bl k) H) (e:k=k'):EP X pins σ Q (.bool k') s:=by
 subst e;exact ⟨.bl k,H,I,rfl,q⟩
theorem YL:bM X (dE .Eq) xJ:=by
 intro pins s σ H x y v u Q I rx ry h;obtain ⟨hs,q⟩:=xH.mp h
 cases x with
 | non =>
  cases rx
  cases y with
  | non=>cases ry;exact PySem.EqNone.eq_none_none (YK I q (by simp))
  | bl j=>cases ry;exact PySem.EqNone.eq_none_bool (YK I q (by simp))
  | int j=>obtain ⟨t',rfl⟩:=ry;exact PySem.EqNone.eq_none_int (YK I q (by simp))
  | str j=>obtain ⟨t',rfl⟩:=ry;exact PySem.EqNone.eq_none_str (YK I q (by simp))
  | _=>exact absurd (show false=true from hs) τ
 | bl i =>
  cases rx
  cases y with
  | non=>cases ry;exact PySem.EqNone.eq_bool_none (YK I q (by simp))
  | bl j=>cases ry;exact eq_bool (YK I q Gk)
  | str j=>obtain ⟨t',rfl⟩:=ry;exact PySem.EqMixed.eq_bool_str (YK I q (by simp))
  | _=>exact absurd (show false=true from hs) τ
 | int i =>
  obtain ⟨t,rfl⟩:=rx
  cases y with
  | non=>cases ry;exact PySem.EqNone.eq_int_none (YK I q (by simp))
  | int j=>obtain ⟨t',rfl⟩:=ry;exact eq_int (YK I q Gj)
  | str j=>obtain ⟨t',rfl⟩:=ry;exact PySem.EqMixed.eq_int_str (YK I q (by simp))
  | _=>exact absurd (show false=true from hs) τ
 | str i =>
  obtain ⟨t,rfl⟩:=rx
  cases y with
  | non=>cases ry;exact PySem.EqNone.eq_str_none (YK I q (by simp))
  | bl j=>cases ry;exact PySem.EqMixed.eq_str_bool (YK I q (by simp))
  | int j=>obtain ⟨t',rfl⟩:=ry;exact PySem.EqMixed.eq_str_int (YK I q (by simp))
  | str j=>obtain ⟨t',rfl⟩:=ry;exact eq_str (YK I q Gm)
  | _=>exact absurd (show false=true from hs) τ
 | gw i =>
  obtain ⟨t,rfl⟩:=rx
  cases y with
  | gw j=>obtain ⟨t',rfl⟩:=ry;exact W.eq_bytes (YK I q Gn)
  | _=>exact absurd (show false=true from hs) τ
 | _=>cases y<;>exact absurd (show false=true from hs) τ
theorem Gp:bM X (dE .NotEq) xK:=by
 intro pins s σ H x y v u Q I rx ry h;obtain ⟨hs,q⟩:=xH.mp h
 cases x with
 | non =>
  cases rx
  cases y with
  | non=>cases ry;exact PySem.EqNone.ne_none_none (YK I q (by simp))
  | bl j=>cases ry;exact PySem.EqNone.ne_none_bool (YK I q (by simp))
  | int j=>obtain ⟨t',rfl⟩:=ry;exact PySem.EqNone.ne_none_int (YK I q (by simp))
  | str j=>obtain ⟨t',rfl⟩:=ry;exact PySem.EqNone.ne_none_str (YK I q (by simp))
  | _=>exact absurd (show false=true from hs) τ
 | bl i =>
  cases rx
  cases y with
  | non=>cases ry;exact PySem.EqNone.ne_bool_none (YK I q (by simp))
  | bl j=>cases ry;exact ne_bool (YK I q (congrArg not Gk))
  | str j=>obtain ⟨t',rfl⟩:=ry;exact PySem.EqMixed.ne_bool_str (YK I q (by simp))
  | _=>exact absurd (show false=true from hs) τ
 | int i =>
  obtain ⟨t,rfl⟩:=rx
  cases y with
  | non=>cases ry;exact PySem.EqNone.ne_int_none (YK I q (by simp))
  | int j=>obtain ⟨t',rfl⟩:=ry;exact ne_int (YK I q (congrArg not Gj))
  | str j=>obtain ⟨t',rfl⟩:=ry;exact PySem.EqMixed.ne_int_str (YK I q (by simp))
  | _=>exact absurd (show false=true from hs) τ
 | str i =>
  obtain ⟨t,rfl⟩:=rx
  cases y with
  | non=>cases ry;exact PySem.EqNone.ne_str_none (YK I q (by simp))
  | bl j=>cases ry;exact PySem.EqMixed.ne_str_bool (YK I q (by simp))
  | int j=>obtain ⟨t',rfl⟩:=ry;exact PySem.EqMixed.ne_str_int (YK I q (by simp))
  | str j=>obtain ⟨t',rfl⟩:=ry;exact ne_str (YK I q (congrArg not Gm))
  | _=>exact absurd (show false=true from hs) τ
 | gw i =>
  obtain ⟨t,rfl⟩:=rx
  cases y with
  | gw j=>obtain ⟨t',rfl⟩:=ry;exact W.ne_bytes (YK I q (congrArg not Gn))
  | _=>exact absurd (show false=true from hs) τ
 | _=>cases y<;>exact absurd (show false=true from hs) τ
theorem U8:bM X (dE .Lt) (iD λi j => .bl (decide (i<j))):=uN λ_ _ _ _ _ _ _ q=>lt_int q
theorem xM:bM X (dE .LtE) (iD λi j => .bl (decide (i<=j))):=uN λ_ _ _ _ _ _ _ q=>le_int q
theorem xO:bM X (dE .Gt) (iD λi j => .bl (decide (j<i))):=uN λ_ _ _ _ _ _ _ q=>gt_int q
theorem El:bM X (dE .GtE) (iD λi j => .bl (decide (j<=i))):=uN λ_ _ _ _ _ _ _ q=>ge_int q
theorem Ys (b:Expr) {op:CmpOp} (h:op ≠ .In:=by decide) (h2:op ≠ .NotIn:=by decide):ja op b=false:=by
 have e1:(op==CmpOp.In)=false:=by cases op<;>first | rfl | exact absurd rfl h
 have e2:(op==CmpOp.NotIn)=false:=by cases op<;>first | rfl | exact absurd rfl h2
 cases b<;>simp [ja,e1,e2]
theorem WX {op:CmpOp} {r:R2} (ho:bM X (dE op) r) (ha:PE X a ta) (hb:PE X b tb) (hm:ja op b=false):PE X (.Compare a [op] [b] pos) (mX r ta tb):=by
 intro pins s σ H Q I h;exact wpAny_Compare1 (sZ ha hb I h λv u s2 x y H2 I2 rx ry q=>ho pins s2 σ H2 x y v u Q I2 rx ry q) hm
def xP (t:TE):TT:=λσ H Q=>t σ H λx H'=>kB x λk=>Q k H'
theorem Yq {op:CmpOp} {r:R2} (ho:bM X (dE op) r) (ha:PE X a ta) (hb:PE X b tb) (hm:ja op b=false):PT X (.Compare a [op] [b] pos) (xP (mX r ta tb)):=by
 intro pins s σ H Q I h;refine wpAny_isTrue_Compare1 (aA (ha pins s σ H _ I h) λv s1 ⟨x,H1,I1,r1,q1⟩=>aA (hb pins s1 σ H1 _ I1 q1) λu s2 ⟨y,H2,I2,r2,q2⟩ =>
  aA (ho pins s2 σ H2 x y v u _ I2 r1 r2 q2) λc s3 ⟨z,H3,I3,r3,q3⟩=>?_) hm
 replace q3:=uE.mp q3
 obtain ⟨k,e,q3⟩:=q3;subst e
 cases r3
 exact wpAny_truthy_bool ⟨H3,I3,q3⟩
def Gq (r r':R2) (ta tb tc:TE):TE:=λσ H Q=>ta σ H λx H1=>tb σ H1 λy H2=>r x y H2 λz H3=>kB z λk =>
 (if k=true then tc σ H3 λw' H4=>r' y w' H4 Q else Q (.bl false) H3)
theorem V1:(sizeLine:Nat)<2^63:=by rw [sizeLine_eq];decide
theorem U9:bM X (di .Add) (λx y H Q=>∃ i j,x = .str i/\y = .str j/\i.length+j.length<=sizeLine/\Q (.str (i++j)) H):=by
 intro pins s σ H x y v u Q I rx ry h;obtain ⟨i,j,rfl,rfl,hz,q⟩:=h;obtain ⟨t,rfl⟩:=rx;obtain ⟨t',rfl⟩:=ry;exact add_str (λt' tk=>⟨.str (i++j),H,I.tok _,⟨_,rfl⟩,q⟩) hz
theorem WE {x:V} {us:List Α} (r:Yt [x] us):∃ u,us=[u]/\YB x u:=by
 cases r with
 | cons r1 r2=>cases r2;exact ⟨_,rfl,r1⟩
theorem uO {x y:V} {us:List Α} (r:Yt [x,y] us):∃ u w',us=[u,w']/\YB x u/\YB y w':=by
 cases r with
 | cons r1 r2 =>
  cases r2 with
  | cons r3 r4=>cases r4;exact ⟨_,_,rfl,r1,r3⟩
def xQ:List V->Hp->VK->Prop:=λxs H Q=>k2 xs λx y=>kI x λi=>kI y λj=>Q (.int (if j>i then j else i)) H
theorem Q6 (hc:X.calm=true):XU X (.builtin "max") (xQ):=by
 intro pins s σ H xs us Q I r h;obtain ⟨x,y,rfl,h1⟩:=sO h;obtain ⟨i,j,rfl,rfl,q⟩:=kW h1;obtain ⟨u,w',rfl,⟨t,rfl⟩,⟨t',rfl⟩⟩:=uO r;refine max_two_ints (I.ok.hd hc) λh' tk k=>⟨_,H,I.kept k,?_,q⟩
 by_cases hj:j>i
 ·rw [if_pos hj,if_pos hj];exact ⟨_,rfl⟩
 ·rw [if_neg hj,if_neg hj];exact ⟨_,rfl⟩
def xR:List V->Hp->VK->Prop:=λxs H Q=>k2 xs λx y=>kI x λi=>kI y λj=>Q (.int (if j<i then j else i)) H
theorem Q7 (hc:X.calm=true):XU X (.builtin "min") (xR):=by
 intro pins s σ H xs us Q I r h;obtain ⟨x,y,rfl,h1⟩:=sO h;obtain ⟨i,j,rfl,rfl,q⟩:=kW h1;obtain ⟨u,w',rfl,⟨t,rfl⟩,⟨t',rfl⟩⟩:=uO r;refine min_two_ints (I.ok.hd hc) λh' tk k=>⟨_,H,I.kept k,?_,q⟩
 by_cases hj:j<i
 ·rw [if_pos hj,if_pos hj];exact ⟨_,rfl⟩
 ·rw [if_neg hj,if_neg hj];exact ⟨_,rfl⟩
theorem TQ:XU X (.type "int") (λxs H Q=>(∃ i,xs=[.int i]/\Q (.int i) H)\/∃ k,xs=[.bl k]/\Q (.int (if k then 1 else 0)) H):=by
 intro pins s σ H xs us Q I r h;rcases h with ⟨i,rfl,q⟩ | ⟨k,rfl,q⟩
 ·obtain ⟨u,rfl,t,rfl⟩:=WE r
  exact call_int_int ⟨.int i,H,I,⟨_,rfl⟩,q⟩
 ·obtain ⟨u,rfl,r1⟩:=WE r
  cases r1
  exact call_int_bool ⟨.int (if k then 1 else 0),H,I.tok _,⟨_,rfl⟩,q⟩
end
structure iT (h:Heap) (x dx C:Addr) (mA:Str->Option Α):Prop where
 obj:h.get? x=some (gN C dx)
 ns:h.Ns1 dx mA
 ne:dx≠x
theorem TV {h:Heap} {dx:Addr} {mA:Str->Option Α} (n:h.Ns1 dx mA):∃ od,h.get? dx=some od/\∀ name,W.lookIn name od=some (mA name):=by
 obtain ⟨o,es,ep,ho,hd,hk,_,hm⟩:=n;refine ⟨o,ho,λname=>?_⟩;have e:=hm name;unfold nsFind findBy at e;rw [<- Array.find?_toList] at e
 unfold W.lookIn;rw [hd];dsimp only
 split
 ·rename_i y q
  rw [q] at e
  exact congrArg some e
 ·rename_i q
  rw [q] at e
  have a:es.toList.any (·.refKey)=false:=by
   rw [List.any_eq_false];intro y hy;obtain ⟨z,t,hkey⟩:=hk y (Array.mem_toList_iff.mp hy);simp [DictEntry.refKey,hkey]
  have a':¬ es.toList.any (·.refKey)=true:=by rw [a];exact τ
  rw [if_neg a'];exact congrArg some e
theorem iT.look {h:Heap} {x dx C:Addr} {mA:Str->Option Α} (I:iT h x dx C mA):∃ od,W.InstAt h x (gN C dx) C (some od)/\∀ name,W.lookIn name od=some (mA name) :=
 let ⟨od,ho,hl⟩:=TV I.ns
 ⟨od,⟨I.obj,rfl,rfl,ho⟩,hl⟩
section
variable {prog:δ} {w:ι} {A:ag} {E:Α->Ζ->Prop} {s:Ζ} {K:Θ} {x dx C f:Addr} {mA:Str->Option Α} {name:Str} {v:Α}
theorem TX {expr:Bool} {Q:Α->Ζ->Prop} (X:K.In s.heap) (I:iT s.heap x dx C mA) (hg:W.plainGet K C name=true) (hh:W.hasDictIn K C=true)
  (ha:fS K (.ref C) name=some none) (hv:mA name=some v) (hv':W.handedIn v=true) (h:Q v { s with toks:=s.toks+1 }) :
  Χ (Ω prog w) A (getAttr (.ref x) name expr) Q E s:=by
 obtain ⟨od,J,hl⟩:=I.look;exact W.get_value X J (W.plainGet_of hg).1 (W.findObj_own hh ha rfl (by rw [hl,hv])) hv' h
theorem TY {pl:Sem Bool} {Q:Α×List Α->Ζ->Prop} (X:K.In s.heap) (I:iT s.heap x dx C mA) (hg:W.plainGet K C name=true)
  (hf:fS K (.ref C) name=some (some (.ref f))) (ht:W.isFn K (.ref f)=true) (hv:mA name=none) (h:Q (.ref f,[.ref x]) s) :
  Χ (Ω prog w) A (i8 (.ref x) name pl) Q E s:=by
 obtain ⟨od,J,hl⟩:=I.look;exact W.method_fn X J (W.plainGet_of hg).1 (W.plainGet_of hg).2 hf (beq_iff_eq.mp ht) (by show (W.lookIn name od).map (·.isSome)=some false;rw [hl,hv];rfl) h
theorem T6 {ns:List Str} {Q:Unit->Ζ->Prop} (X:K.In s.heap) (I:iT s.heap x dx C mA)
  (hs:fS K (.ref C) "__setattr__"=some (some (.builtin "object.__setattr__"))) (hp:W.plainOver K C=true) (ht:W.takerIn K C name=some none) (hh:W.hasDictIn K C=true)
  (hw:PySem.Within mA ns) (hsz:ns.length<=sizeLine)
  (h:∀ h',iT h' x dx C (λy=>if y=name then some v else mA y)->bP dx s.heap h'->Q () { s with heap:=h',toks:=s.toks+2 }) :
  Χ (Ω prog w) A (setAttr (.ref x) name v) Q E s:=by
 obtain ⟨od,J,hl⟩:=I.look;refine W.set_plain X J hs (W.osa_open (s:={ s with toks:=s.toks+1 }) (r:=none) X J hp ht λb=>?_);obtain ⟨cd,hc,hd'⟩:=W.any_some hh;have hx:s.heap.get? x=some ⟨.ref C,some dx,.plain,#[]⟩:=I.obj;refine Ι (Ρ (Ι (Ι (wpAny_loadPart hx (Ι (W.Looks.here (s:={ s with toks:=s.toks+1 }) (W.looks_clsIn X hc) ?_))))));rw [hd'];refine Ρ (a:=some dx) (Ι (Ρ (Ι ?_)));refine wpAny_nsSet1 (s:={ s with toks:=s.toks+1 }) I.ns λh' hn2 hs2=>?_
 obtain ⟨oD,esD,epD,hoD,hdD,hcD⟩:=hn2.count (PySem.Within.cons name v hw);refine Ι (wpAny_lookBehind hoD (by rw [hdD];exact pastItsLine_dict (Τ hcD (by rw [ω];omega))) ?_);exact Ρ (h _ ⟨(hs2.2 _ (ai I.ne)).trans I.obj,hn2,I.ne⟩ hs2)
theorem T7 {R:Result->Ζ->Prop} {vs:List Α} {kw:List (Str×Α)} (X:K.In s.heap) (hm:W.makesIn K C=true)
  (hi:fS K (.ref C) "__init__"=some (some (.ref f))) (hf:W.typeIn K (.ref f)=some (.type "function"))
  (h:gv (Ω prog w) (A.under (.builtin "type.__call__" ⟨.ref C::vs,kw⟩)) (.call (.ref f) ⟨.ref (s.heap.objs.size+1)::vs,kw⟩) (W.InitBack (s.heap.objs.size+1) R)
   { s with heap:=(s.heap.push f7).push (gN C s.heap.objs.size) }) :
  gv (Ω prog w) A (.call (.ref C) ⟨vs,kw⟩) R s:=by
 obtain ⟨hh,g,d,t,os⟩:=s;exact W.make_core (W.makes_of X hm) (W.looks_findIn X hi) (λself=>W.bind_fn X self hf) (.inl rfl) h
end
def YW (f:Str) (v:V):List (Str×V)->List (Str×V)
 | []=>[(f,v)]
 | (g,x)::r=>if g=f then (g,v)::r else (g,x)::YW f v r
theorem UI (f g:Str) (v:V):∀ fs:List (Str×V),(YW f v fs).lookup g=if g=f then some v else fs.lookup g
 | []=>by
  show c6 g [(f,v)]=_
  by_cases h:g=f
  ·have hb:(g==f)=true:=beq_iff_eq.mpr h
   simp only [c6,hb,if_pos h]
  ·have hb:(g==f)=false:=beq_eq_false_iff_ne.mpr h
   simp only [c6,hb,if_neg h]
 | (k,x)::r=>by
  have ih:=UI f g v r;rw [show YW f v ((k,x)::r)=(if k=f then (k,v)::r else (k,x)::YW f v r) from rfl];by_cases hk:k=f
  ·rw [if_pos hk]
   by_cases h:g=k
   ·have hb:(g==k)=true:=beq_iff_eq.mpr h
    simp only [c6,hb,if_pos (h.trans hk)]
   ·have hb:(g==k)=false:=beq_eq_false_iff_ne.mpr h
    simp only [c6,hb,if_neg (λe:g=f=>h (e.trans hk.symm))]
  ·rw [if_neg hk]
   by_cases h:g=k
   ·have hb:(g==k)=true:=beq_iff_eq.mpr h
    simp only [c6,hb,if_neg (λe:g=f=>hk (h.symm.trans e))]
   ·have hb:(g==k)=false:=beq_eq_false_iff_ne.mpr h
    simp only [c6,hb];exact ih
theorem V2 (f:Str) (v:V):∀ fs:List (Str×V),f∈(YW f v fs).map (·.1)/\∀ g,g∈fs.map (·.1)->g∈(YW f v fs).map (·.1)
 | []=>⟨by simp [YW],λg h=>by simp at h⟩
 | (k,x)::r=>by
  obtain ⟨i1,i2⟩:=V2 f v r;rw [show YW f v ((k,x)::r)=(if k=f then (k,v)::r else (k,x)::YW f v r) from rfl];by_cases hk:k=f
  ·rw [if_pos hk]
   subst hk;exact ⟨by simp,λg h=>by simpa using h⟩
  ·rw [if_neg hk]
   refine ⟨?_,λg h=>?_⟩
   ·rw [χ]
    exact bE _ i1
   ·rw [χ] at h ⊢
    rcases Ν.mp h with e | e
    ·exact Ν.mpr (.inl e)
    ·exact bE _ (i2 g e)
theorem Xp (f:Str) (v:V):∀ fs:List (Str×V),(YW f v fs).length<=fs.length+1
 | []=>by simp [YW]
 | (k,x)::r=>by
  have ih:=Xp f v r;rw [show YW f v ((k,x)::r)=(if k=f then (k,v)::r else (k,x)::YW f v r) from rfl];by_cases hk:k=f
  ·rw [if_pos hk,ω,ω];omega
  ·rw [if_neg hk,ω,ω];omega
theorem Wd.some_of {v:V} {o:Option Α} (r:Wd (some v) o):∃ u,o=some u/\YB v u:=by
 cases o with
 | none=>exact (show False from r).elim
 | some u=>exact ⟨u,rfl,r⟩
theorem Wd.none_of {o:Option Α} (r:Wd none o):o=none:=by
 cases o with
 | none=>rfl
 | some u=>exact (show False from r).elim
theorem T8 {v:V} {u:Α} (r:YB v u):W.handedIn u=true:=by
 cases v with
 | non=>cases (show u=ic from r);rfl
 | bl b=>cases (show u=kq b from r);rfl
 | int i=>obtain ⟨t,e⟩:=(show ∃ t,u=km i t from r);cases e;rfl
 | str x=>obtain ⟨t,e⟩:=(show ∃ t,u=iE x t from r);cases e;rfl
 | gw b=>obtain ⟨t,e⟩:=(show ∃ t,u=Value.bytes b t from r);cases e;rfl
 | flt b=>obtain ⟨t,e⟩:=(show ∃ t,u=Value.float b t from r);cases e;rfl
 | ref a=>cases (show u=ae a from r);rfl
 | ty n=>cases (show u=Value.type n from r);rfl
section
variable {P:δ} {w:ι} {H H':Hp} {h h':Heap} {a C dx:Addr} {fs fs':List (Str×V)}
theorem Us (hok:bB P w H h) (e:H a=some (.ins C dx fs)):∃ mA,iT h a dx C mA/\(∀ f,Wd (fs.lookup f) (mA f))/\PySem.Within mA (fs.map (·.1))/\fs.length<=1000/\H dx=some (.own a):=by
 obtain ⟨d,z,ne,ob,mA,n,r,q⟩:=(show YN P w H h a (.ins C dx fs) from hok a _ e);exact ⟨mA,⟨ob,n,ne⟩,r,q,z,d⟩
end
structure Cls (K:Θ) (C:Addr):Prop where
 pg:W.plainGet K C Str.empty=true
 hd:W.hasDictIn K C=true
 po:W.plainOver K C=true
 sa:fS K (.ref C) "__setattr__"=some (some (.builtin "object.__setattr__"))
theorem Cls.get {K:Θ} {C:Addr} (c:Cls K C) (f:Str):W.plainGet K C f=true:=c.pg
def Yg (K:Θ) (C:Addr) (f:Str):Prop:=fS K (.ref C) f=some none
theorem Yg.taker {K:Θ} {C:Addr} {f:Str} (n:Yg K C f):W.takerIn K C f=some none:=by
 unfold W.takerIn;rw [show fS K (.ref C) f=some none from n];rfl
structure Meth (K:Θ) (C:Addr) (m:Str) (f:Addr):Prop where
 at_:fS K (.ref C) m=some (some (.ref f))
 fn:W.isFn K (.ref f)=true
 kp:eQ K (.ref f)=true
section
variable {X:Cx} {pins:List (Addr×Obj)} {σ:St} {H:Hp} {s:Ζ} {a C dx:Addr} {fs:List (Str×V)} {f:Str} {v:V} {A:ag} {E:Α->Ζ->Prop}
theorem T9 {b:Bool} {Q:Α->Ζ->Prop} (I:Inv X pins σ H s) (e:H a=some (.ins C dx fs)) (c:Cls X.K C) (n:Yg X.K C f) (l:fs.lookup f=some v)
  (h:∀ u s',Inv X pins σ H s'->YB v u->Q u s'):Χ (Ω X.prog X.w) A (getAttr (.ref a) f b) Q E s:=by
 obtain ⟨mA,O,r,_,_,_⟩:=Us I.hok e;obtain ⟨u,hu,ru⟩:=Wd.some_of (v:=v) (o:=mA f) (by rw [<- l];exact r f);exact TX I.bL O (c.get f) c.hd n hu (T8 ru) (h u _ (I.tok _) ru)
theorem Qa {m:Str} {g:Addr} {pl:Sem Bool} {Q:Α×List Α->Ζ->Prop} (I:Inv X pins σ H s) (e:H a=some (.ins C dx fs)) (c:Cls X.K C) (k:Meth X.K C m g) (l:fs.lookup m=none)
  (h:Q (.ref g,[.ref a]) s):Χ (Ω X.prog X.w) A (i8 (.ref a) m pl) Q E s:=by
 obtain ⟨mA,O,r,_,_,_⟩:=Us I.hok e;have hn:mA m=none:=Wd.none_of (by rw [<- l];exact r m);exact TY I.bL O (c.get m) k.at_ k.fn hn h
theorem YcQ {y:V} {u:Α} {Q:Unit->Ζ->Prop} (I:Inv X pins σ H s) (e:H a=some (.ins C dx fs)) (c:Cls X.K C) (n:Yg X.K C f) (hl:fs.length<1000) (ry:YB y u)
  (h:∀ s',Inv X pins σ (upd H a (.ins C dx (YW f y fs))) s'->Q () s'):Χ (Ω X.prog X.w) A (setAttr (.ref a) f u) Q E s:=by
 obtain ⟨mA,O,r,wi,_,ho⟩:=Us I.hok e;have hz:(fs.map (·.1)).length<=sizeLine:=by rw [Β,sizeLine_eq];omega
 refine T6 I.bL O c.sa c.po n.taker c.hd wi hz λh' O' sb=>h _ ?_
 have hd:∃ o,h'.get? dx=some o:=let ⟨o,_,_,e',_⟩:=O'.ns;⟨o,e'⟩
 refine I.write (x:=a) (e:=dx) (by rw [e];exact d3) (.inr ho) (λb q hb z=>(sb.2 b hb).trans z) hd ?_;refine ⟨by rw [Ye O.ne];exact ho,?_,O.ne,O'.obj,_,O'.ns,λg=>?_,λg hg=>?_⟩
 ·have:=Xp f y fs;omega
 ·show Wd ((YW f y fs).lookup g) (if g=f then some u else mA g)
  rw [UI];by_cases q:g=f
  ·rw [if_pos q,if_pos q];exact ry
  ·rw [if_neg q,if_neg q];exact r g
 ·by_cases q:g=f
  ·rw [q];exact (V2 f y fs).1
  ·refine (V2 f y fs).2 g (wi g λz=>hg ?_)
   show (if g=f then some u else mA g)=none
   rw [if_neg q];exact z
theorem Inv.made (I:Inv X pins σ H s):Inv X pins σ (upd (upd H s.heap.objs.size (.own (s.heap.objs.size+1))) (s.heap.objs.size+1) (.ins C s.heap.objs.size []))
  { s with heap:=(s.heap.push f7).push (gN C s.heap.objs.size) }:=by
 have e1:(s.heap.push f7).get? s.heap.objs.size=some W.emptyDict:=af s.heap rfl;have e2:((s.heap.push f7).push (gN C s.heap.objs.size)).get? (s.heap.objs.size+1)=some (gN C s.heap.objs.size):=by
  have:=af (s.heap.push f7) (o:=gN C s.heap.objs.size) rfl
  rwa [i6] at this
 have e3:(s.heap.push f7).Ns s.heap.objs.size (λ_=>none):=⟨f7,#[],_,e1,rfl,(λe he=>absurd he (by simp)),λ_=>rfl⟩;have I1:=I.laid (a:=s.heap.objs.size) (o := .own (s.heap.objs.size+1)) (h':=s.heap.push f7) (t':=s.toks) (λb u q=>Ο _ q) (Κ _) ⟨_,e1⟩;refine I1.laid (a:=s.heap.objs.size+1) (o := .ins C s.heap.objs.size []) (t':=s.toks) (λb u q=>Ο _ q) (kb (i6 _ _)) ?_;have ne:s.heap.objs.size≠s.heap.objs.size+1:=ο (Nat.lt_succ_self _);refine ⟨by rw [Ye ne,Yb],ν _,ne,e2,λ_=>none,(Heap.Ns1.of_empty e3).at λo q=>Ο _ q,λ_=>d3,λy hy=>absurd rfl hy⟩
theorem Ygj {prog:δ} {w:ι} {env:Env} {e:Expr} {f:Str} {pos:Pos} {s:Ζ} {Q:Α->Ζ->Prop} (hb:gu e f env (eval e env)=eval e env)
  (h:Χ (Ω prog w) A (eval e env) (λo s₁=>Χ (Ω prog w) A (getAttr o f true) Q E s₁) E s):Χ (Ω prog w) A (eval (.Attribute e f pos) env) Q E s :=
 Attribute_any_ h (by rw [arm_eval_Attribute,hb])
end
inductive Rm (K:Θ) (H:Hp) (a:Addr) (f:Str) (Q:V->Prop):Prop
 | mk (C dx:Addr) (fs:List (Str×V)) (h:H a=some (.ins C dx fs)) (c:Cls K C) (n:Yg K C f) (v:V) (l:fs.lookup f=some v) (q:Q v)
inductive Rn (K:Θ) (H:Hp) (a:Addr) (f:Str) (Q:Addr->Addr->List (Str×V)->Prop):Prop
 | mk (C dx:Addr) (fs:List (Str×V)) (h:H a=some (.ins C dx fs)) (c:Cls K C) (n:Yg K C f) (l:fs.length<1000) (q:Q C dx fs)
def uP (K:Θ) (ta:TE) (f:Str):TE:=λσ H Q=>ta σ H λx H1=>kR x λa=>Rm K H1 a f λv=>Q v H1
def tE (K:Θ) (ta tv:TE) (f:Str):TS:=λD σ H=>tv σ H λy H1=>ta σ H1 λx H2=>kR x λa=>Rn K H2 a f λC dx fs=>D.nx σ (upd H2 a (.ins C dx (YW f y fs)))
section
variable {X:Cx} {o e value:Expr} {f:Str} {pos pos' tpos:Pos} {ta tv:TE}
theorem Yx (he:PE X e ta) (hb:gu e f X.env (eval e X.env)=eval e X.env):PE X (.Attribute e f pos) (uP X.K ta f):=by
 intro pins s σ H Q I h;refine Ygj hb (aA (he pins s σ H _ I h) λu s1 ⟨x,H1,I1,rx,q⟩=>?_)
 replace q:=Vm.mp q
 obtain ⟨a,ex,C,dx,fs,ea,c,n,v,l,q⟩:=q;subst ex;obtain rfl:u=ae a:=rx;exact T9 I1 ea c n l λu' s2 I2 ru=>⟨v,H1,I2,ru,q⟩
theorem Xa (ha:PE X o ta) (hv:PE X value tv) (hs:swapsWith value (some (.Attribute o f pos')) pos.line X.env=pure false):PS X (.Assign [.Attribute o f pos'] value pos) (tE X.K ta tv f):=by
 intro pins s σ H D I h;refine plainObj_wpAny_Assign_Attribute (aA (hv pins s σ H _ I h) λu s1 ⟨y,H1,I1,ry,q⟩=>aA (ha pins s1 σ H1 _ I1 q) λov s2 ⟨x,H2,I2,rx,q2⟩=>?_) hs
 replace q2:=Vm.mp q2
 obtain ⟨a,ex,C,dx,fs,ea,c,n,l,q2⟩:=q2;subst ex;obtain rfl:ov=ae a:=rx;exact YcQ I2 ea c n l ry λs3 I3=>⟨σ,_,I3,q2⟩
end
section
variable {X:Cx} {pins:List (Addr×Obj)} {σ:St} {H:Hp} {s:Ζ} {A:ag} {E:Α->Ζ->Prop} {Q:Α->Ζ->Prop} {c:Α} {b:Bool}
inductive cJ (K:Θ) (H:Hp):V->Α->Prop where
 | non:cJ K H .non (.type "NoneType")
 | bl (x:Bool):cJ K H (.bl x) (.type "bool")
 | int (i:Int):cJ K H (.int i) (.type "int")
 | str (x:Str):cJ K H (.str x) (.type "str")
 | flt (x:UInt64):cJ K H (.flt x) (.type "float")
 | lst {a:Addr} {xs:List V} (e:H a=some (.lst xs)):cJ K H (.ref a) (.type "list")
 | eH {a:Addr} {o:Obj} {xs:List V} (e:H a=some (.eH o (.lst xs))):cJ K H (.ref a) (.type "list")
 | tup {a:Addr} {xs:List V} (e:H a=some (.tup xs)):cJ K H (.ref a) (.type "tuple")
 | dK {a:Addr} {kvs:List (Key×V)} (e:H a=some (.dK kvs)):cJ K H (.ref a) (.type "dict")
 | dT {a:Addr} {kvs:List (List Key×V)} (e:H a=some (.dT kvs)):cJ K H (.ref a) (.type "dict")
 | ins {a C dx:Addr} {fs:List (Str×V)} (e:H a=some (.ins C dx fs)) (cl:Cls K C) (ha:fS K (.ref C) "__class__"=some (some (.builtin "object.__class__")))
   (hn:W.specialIn K (.builtin "object.__class__") "__get__"=some (some (.builtin "getset_descriptor.__get__"))) (htk:W.takesIn K (.builtin "object.__class__")=some true)
   (hm:W.mroIn K C (.type "object")=some true):cJ K H (.ref a) (.ref C)
theorem YdN {x:V} {u t:Α} (I:Inv X pins σ H s) (rx:YB x u) (ty:cJ X.K H x t) (e:W.kitOne X.K t c=some b) (h:∀ tk,Q (.bool b) { s with toks:=tk }) :
  Χ (Ω X.prog X.w) A (call (.builtin "isinstance") [u,c]) Q E s:=by
 cases ty with
 | non=>cases (show u=ic from rx);exact eP W.kitx_none I.bL d3 e (λz=>nomatch z) h
 | bl y=>cases (show u=kq y from rx);exact eP W.kitx_bool I.bL d3 e (λz=>nomatch z) h
 | int i=>obtain ⟨t,q⟩:=(show ∃ t,u=km i t from rx);cases q;exact eP W.kitx_int I.bL d3 e (λz=>nomatch z) h
 | str y=>obtain ⟨t,q⟩:=(show ∃ t,u=iE y t from rx);cases q;exact eP W.kitx_str I.bL d3 e (λz=>nomatch z) h
 | flt y=>obtain ⟨t,q⟩:=(show ∃ t,u=Value.float y t from rx);cases q;exact eP W.kitx_float I.bL d3 e (λz=>nomatch z) h
 | @lst a xs ea =>
  cases (show u=ae a from rx)
  obtain ⟨_,_,n,_,h1⟩:=(show YN X.prog X.w H s.heap a (.lst xs) from I.hok a _ ea);exact eP W.kitx_list I.bL ⟨_,h1,rfl⟩ e (λz=>nomatch z) h
 | @eH a ob xs ea =>
  cases (show u=ae a from rx)
  obtain ⟨_,_,_,n,_,h1⟩:=(show YN X.prog X.w H s.heap a (.eH ob (.lst xs)) from I.hok a _ ea);exact eP W.kitx_list I.bL ⟨_,h1,rfl⟩ e (λz=>nomatch z) h
 | @tup a xs ea =>
  cases (show u=ae a from rx)
  obtain ⟨_,_,_,p⟩:=(show YN X.prog X.w H s.heap a (.tup xs) from I.hok a _ ea);obtain ⟨o,h1,h2,_⟩:=p;exact eP W.kitx_tuple I.bL ⟨o,h1,h2⟩ e (λz=>nomatch z) h
 | @dK a kvs ea =>
  cases (show u=ae a from rx)
  obtain ⟨_,_,vs,_,p⟩:=(show YN X.prog X.w H s.heap a (.dK kvs) from I.hok a _ ea);obtain ⟨o,es,ep,h1,h2,_⟩:=p;exact eP W.kitx_dict I.bL ⟨o,h1,h2.1⟩ e (λz=>nomatch z) h
 | @dT a kvs ea =>
  cases (show u=ae a from rx)
  obtain ⟨_,_,xs,_,o,es,ep,h1,h2,_⟩:=(show YN X.prog X.w H s.heap a (.dT kvs) from I.hok a _ ea);exact eP W.kitx_dict I.bL ⟨o,h1,h2.1⟩ e (λz=>nomatch z) h
 | @ins a C dx fs ea cl ha hn htk hm =>
  cases (show u=ae a from rx)
  obtain ⟨mA,O,_⟩:=Us I.hok ea;obtain ⟨od,J,_⟩:=O.look;exact eP (W.kitx_own (cl.get _) cl.hd ha hn htk hm) I.bL J e (λz=>nomatch z) h
end
structure aP (k:Nat) (A:ag):Prop where
 hd:A.handled=none
 dp:A.depth+3*k+5<recursionLimit
 un:A.units+16*k+200<ia
 gd:A.guards=some []
theorem aP.mono {j k:Nat} {A:ag} (r:aP k A) (h:j<=k):aP j A:=⟨r.hd,by have:=r.dp;omega,by have:=r.un;omega,r.gd⟩
theorem aP.deeper {k:Nat} {A:ag} (r:aP (k+1) A) (env:Env):aP k (A.deeper env) :=
 ⟨r.hd,by have:=r.dp;show A.depth+1+3*k+5<_;omega,by have:=r.un;show A.units+3+16*k+200<_;omega,r.gd⟩
theorem YcS {A:ag} {C:Addr} {us:List Α} {kw:List (Str×Α)}:(A.under (.builtin "type.__call__" ⟨.ref C::us,kw⟩)).depth=A.depth+1:=by
 first | rfl | simp [kl,Code.weight,Code.isCreation,Code.isGuard,Code.isCaller,Code.frames,ki,guardIds]
theorem YcT {A:ag} {C:Addr} {us:List Α} {kw:List (Str×Α)}:(A.under (.builtin "type.__call__" ⟨.ref C::us,kw⟩)).units=A.units+1:=by
 first | rfl | simp [kl,Code.cUnits,Code.frames,ki]
theorem aP.make {k:Nat} {A:ag} (r:aP (k+1) A) (C:Addr) (us:List Α) (kw:List (Str×Α)):aP k (A.under (.builtin "type.__call__" ⟨.ref C::us,kw⟩)) :=
 ⟨r.hd,by have:=r.dp;rw [YcS];omega,by have:=r.un;rw [YcT];omega,by first | exact r.gd | simpa [kl,Code.isGuard,ki,guardIds] using r.gd⟩
theorem aP.depth {k:Nat} {A:ag} (r:aP k A):A.depth<recursionLimit:=by have:=r.dp;omega
theorem aP.units {k:Nat} {A:ag} (r:aP k A):A.units+64<cLine:=by have:=r.un;omega
def UM:TA:=λ_ H Q=>Q [] H
def Qb (ta:TE) (tr:TA):TA:=λσ H Q=>ta σ H λx H1=>tr σ H1 λxs H2=>Q (x::xs) H2
section
variable {X:Cx} {e:Expr} {es:List Expr} {te:TE} {t:TA} {pos:Pos}
theorem Yd:PA X [] UM:=λ_ _ _ _ H Q I h=>Calls.spliced_nil ⟨[],H,I,.nil,h⟩
theorem Ya (ha:PE X e te) (hr:PA X es t) (hs:η (e::es) X.env=(false,eval e X.env)::η es X.env:=by rfl):PA X (e::es) (Qb te t):=by
 intro pos pins s σ H Q I h;rw [hs]
 show Χ _ _ (spliced ((false,eval e X.env)::b8 pos (η es X.env))) _ _ s
 refine Calls.spliced_cons (aA (ha pins s σ H _ I h) λu s1 ⟨x,H1,I1,r1,q1⟩=>?_);exact aA (hr pos pins s1 σ H1 _ I1 q1) λus s2 ⟨xs,H2,I2,r2,q2⟩=>⟨x::xs,H2,I2,.cons r1 r2,q2⟩
def tG (t:TA):TE:=λσ H Q=>t σ H λxs H1=>xs.length<=sizeLine/\∀ p,H1 p=none->Q (.ref p) (upd H1 p (.tup xs))
def tH (t:TA):TE:=λσ H Q=>t σ H λxs H1=>xs.length<=sizeLine/\∀ p,H1 p=none->Q (.ref p) (upd H1 p (.lst xs))
theorem Xb {x1} (h:PA X es t):PE X (.Tuple es x1 pos) (tG t):=by
 intro pins s σ H Q I hq;refine wpAny_Tuple_spliced (aA (h pos pins s σ H _ I hq) λus s1 ⟨xs,H1,I1,r,z,q⟩=>⟨by rw [<- r.length];exact z,?_⟩);have hf:H1 s1.heap.objs.size=none:=I1.hok.fresh (Κ _);refine ⟨.ref s1.heap.objs.size,upd H1 s1.heap.objs.size (.tup xs),I1.laid (t':=s1.toks) (λb u e=>Ο _ e) (Κ _) ?_,rfl,q _ hf⟩;exact ⟨z,us,r,⟨_,af _ rfl,rfl,_,rfl⟩⟩
theorem Y0 (h:PA X es t):PE X (.List es pos) (tH t):=by
 intro pins s σ H Q I hq;refine wpAny_List_spliced (aA (h pos pins s σ H _ I hq) λus s1 ⟨xs,H1,I1,r,z,q⟩=>⟨by rw [<- r.length];exact z,?_⟩);have hf:H1 s1.heap.objs.size=none:=I1.hok.fresh (Κ _);refine ⟨.ref s1.heap.objs.size,upd H1 s1.heap.objs.size (.lst xs),I1.laid (t':=s1.toks) (λb u e=>Ο _ e) (Κ _) ?_,rfl,q _ hf⟩;exact ⟨z,us,0,r,af _ rfl⟩
end
abbrev Sp:=List V->Hp->VK->XK->Prop
abbrev fC:=List Env->Hp->Ζ->XK->Α->Ζ->Prop
structure fK (P:δ) (w:ι) (K:Θ) (mg:Str->Option Α) (base:Heap) (A:ag) (outer:List Env) (s:Ζ) (H:Hp):Prop where
 frames:A.frames=some outer
 mod:Mod K mg base
 bs:∀ b o,base.get? b=some o->s.heap.get? b=some o/\H b=none
 gA:base.objs.size<=s.heap.objs.size
 dG:s.heap.FunFrames base outer
 iZ:∀ b∈frs outer,H b=none
 hok:bB P w H s.heap
 bare:iA s.gens
def CE (outer:List Env) (P:δ) (w:ι) (H:Hp) (s:Ζ) (Q:VK) (u:Α) (s':Ζ):Prop :=
 ∃ v H',s'.os=s.os/\iA s'.gens/\Un (frs outer) [] H H' s.heap s'.heap/\bB P w H' s'.heap/\YB v u/\Q v H'
def CR (CX:fC) (outer:List Env) (P:δ) (w:ι) (H:Hp) (s:Ζ) (Q:VK) (E:XK) (r:Result) (s':Ζ):Prop :=
 match r with
 | .ok (.ret u)=>CE outer P w H s Q u s'
 | .ok _=>False
 | .error e=>CX outer H s E e s'
structure bG (P:δ) (w:ι) (K:Θ) (mg:Str->Option Α) (base:Heap) (CX:fC) (k:Nat) (f:Addr) (fd:bt) (ps:List Str) (sp:Sp):Prop where
 len:∀ vs H Q E,sp vs H Q E->vs.length=ps.length
 run:∀ (A:ag) (outer:List Env) (s:Ζ) (H:Hp) (args:Args) (us:List Α) (vs:List V) (Q:VK) (E:XK),aP k A->fK P w K mg base A outer s H->BindsTo s fd args (ps.zip us)->Yt vs us->sp vs H Q E ->
  gv (Ω P w) A (.call (.ref f) args) (CR CX outer P w H s Q E) s
theorem bG.mono {P:δ} {w:ι} {K:Θ} {mg:Str->Option Α} {base:Heap} {CX:fC} {j k:Nat} {f:Addr} {fd:bt} {ps:List Str} {sp:Sp} (F:bG P w K mg base CX j f fd ps sp) (h:j<=k) :
  bG P w K mg base CX k f fd ps sp:=⟨F.len,λA outer s H args us vs Q E hr=>F.run A outer s H args us vs Q E (hr.mono h)⟩
theorem fK.make {P:δ} {w:ι} {K:Θ} {mg:Str->Option Α} {base:Heap} {A:ag} {outer:List Env} {s:Ζ} {H:Hp} (e:fK P w K mg base A outer s H) (C:Addr) (us:List Α) (kw:List (Str×Α)) :
  fK P w K mg base (A.under (.builtin "type.__call__" ⟨.ref C::us,kw⟩)) outer s H:=⟨by first | exact e.frames | (simpa [kl,Code.envs,ki,pushEnvs] using e.frames),e.mod,e.bs,e.gA,e.dG,e.iZ,e.hok,e.bare⟩
section
variable {X:Cx} {pins:List (Addr×Obj)} {σ:St} {H:Hp} {s s':Ζ}
theorem Inv.env0 (I:Inv X pins σ H s):fK X.prog X.w X.K X.mg X.base X.A X.stack s H :=
 ⟨I.ok.frames,I.ok.mod,I.bs,Τ I.ok.gA I.sz,I.stack,I.jF,I.hok,I.bare⟩
theorem Inv.after {Q:VK} {u:Α} (I:Inv X pins σ H s) (h:CE X.stack X.prog X.w H s Q u s'):EP X pins σ Q u s':=by
 obtain ⟨v,H',os,bare,un,hok,r,q⟩:=h;obtain ⟨hh,g,d,t,os'⟩:=s';obtain rfl:os'=s.os:=os;exact ⟨v,H',I.call (h':=hh) (g':=g) (d':=d) (t':=t) (ch:=[]) un hok bare (λb z=>absurd z (by simp)),r,q⟩
end
def VE (sp:Sp) (aV:List V) (E:XK) (t:TA):TE:=λσ H Q=>t σ H λvs H1=>sp (vs++aV) H1 Q E
inductive MeQ (H:Hp) (a C:Addr) (m:Str) (Q:Prop):Prop
 | mk (dx:Addr) (fs:List (Str×V)) (h:H a=some (.ins C dx fs)) (l:fs.lookup m=none) (q:Q)
def Qd (C:Addr) (m:Str) (sp:Sp) (aV:List V) (E:XK) (ta:TE) (t:TA):TE:=λσ H Q=>ta σ H λx H1=>kR x λa=>MeQ H1 a C m (t σ H1 λvs H2=>sp (.ref a::(vs++aV)) H2 Q E)
def Ut (C:Addr) (sp:Sp) (aV:List V) (E:XK) (t:TA):TE:=λσ H Q=>t σ H λvs H1=>∀ x dx,H1 x=none->H1 dx=none->dx≠x ->
 sp (.ref x::(vs++aV)) (upd (upd H1 dx (.own x)) x (.ins C dx [])) (λv H2=>v = .non/\Q (.ref x) H2) E
def Xc (K:Θ) (fd:bt) (ps:List Str) (ds:List Α):Prop :=
 ∀ (s:Ζ) (us:List Α),K.In s.heap->(us++ds).length=ps.length->BindsTo s fd ⟨us,[]⟩ (ps.zip (us++ds))
theorem Xc.all {K:Θ} {fd:bt} {ps:List Str} (h:∀ us:List Α,us.length=ps.length->fN fd ⟨us,[]⟩=pure (ps.zip us)):Xc K fd ps []:=λs us _ hl=>by
 rw [a8] at hl ⊢
 exact .of_eq (h us hl)
def W7 (CX:fC) (X:Cx) (E:XK):Prop:=∀ (pins:List (Addr×Obj)) (σ:St) (H:Hp) (s:Ζ) (e:Α) (s':Ζ),Inv X pins σ H s->CX X.stack H s E e s'->X.xe e s'
section
variable {X:Cx} {CX:fC} {k:Nat} {f C:Addr} {fd:bt} {ps:List Str} {sp:Sp} {aV:List V} {ds:List Α} {E:XK} {x m:Str} {p pos apos:Pos} {e o:Expr} {es:List Expr} {ta:TE} {t:TA}
theorem V3 {pins:List (Addr×Obj)} {σ:St} {H:Hp} {s:Ζ} {Q:VK} {us:List Α} {vs:List V} (F:bG X.prog X.w X.K X.mg X.base CX k f fd ps sp) (hr:aP k X.A) (hb:Xc X.K fd ps ds) (hd:Yt aV ds) (hx:W7 CX X E)
  (I:Inv X pins σ H s) (r:Yt vs us) (h:sp (vs++aV) H Q E):Χ (Ω X.prog X.w) X.A (call (.ref f) us) (EP X pins σ Q) X.xe s:=by
 have r2:Yt (vs++aV) (us++ds):=r.append hd;have hl:(us++ds).length=ps.length:=by rw [<- r2.length];exact F.len _ _ _ _ h
 refine wpAny_call (jI (F.run X.A X.stack s H ⟨us,[]⟩ (us++ds) (vs++aV) Q E hr I.env0 (hb s us I.bL hl) r2 h) λr s' hq=>?_)
 cases r with
 | error e=>exact hx pins σ H s e s' I hq
 | ok fl =>
  cases fl with
  | ret u=>exact I.after hq
  | next=>exact b9 hq
  | brk=>exact b9 hq
  | cont=>exact b9 hq
theorem Gs (F:bG X.prog X.w X.K X.mg X.base CX k f fd ps sp) (hr:aP k X.A) (hg:Gl X x) (hm:X.mg x=some (.ref f)) (hk:eQ X.K (.ref f)=true) (hb:Xc X.K fd ps ds) (hd:Yt aV ds) (hx:W7 CX X E)
  (ha:PA X (e::es) t) (hdb:(x==("__debug__":Str))=false:=by decide) (he:η (e::es) X.env=(false,eval e X.env)::η es X.env:=by rfl) (hpl:(b8 pos (η es X.env)).any (·.1)=false:=by rfl) :
  PE X (.Call (.Name x p) (e::es) [] pos) (VE sp aV E t):=by
 intro pins s σ H Q I h;refine ej (Up I hg hm ?_ hdb);refine fF (h₀:=X.base) I.ok.mod.jK hk (aA (ha pos pins s σ H _ I h) λus s1 ⟨vs,H1,I1,r,q⟩=>⟨I1.bL,?_⟩) he hpl;exact V3 F hr hb hd hx I1 r q
theorem Ygk {pl:Sem Bool} (he:PE X o ta) (c:Cls X.K C) (hm:Meth X.K C m f) (F:bG X.prog X.w X.K X.mg X.base CX k f fd ps sp) (hr:aP k X.A) (hb:Xc X.K fd ps ds) (hd:Yt aV ds) (hx:W7 CX X E) (ha:PA X (e::es) t)
  (hst:η (e::es) X.env=(false,eval e X.env)::η es X.env:=by rfl) (hpl:(b8 pos (η es X.env)).any (·.1)=false:=by rfl)
  (ht:eval (.Call (.Attribute o m apos) (e::es) [] pos) X.env=(do
   let ov <- eval o X.env
   standAt apos.atName
   let (f,first) <- holding [ov] (i8 ov m pl)
   callWith pos f first (b8 pos (η (e::es) X.env)) (js pos (il [] X.env))):=by rfl) :
  PE X (.Call (.Attribute o m apos) (e::es) [] pos) (Qd C m sp aV E ta t):=by
 intro pins s σ H Q I h;refine PySem.W.methodCall_KW (pl:=pl) (aA (he pins s σ H _ I h) λu s1 ⟨x,H1,I1,rx,q⟩=>?_) ht
 replace q:=Vm.mp q
 obtain ⟨a,ex,dx,fs,ea,l,q⟩:=q;subst ex;obtain rfl:u=ae a:=rx;refine Qa I1 ea c hm l ?_;refine fF (first:=[.ref a]) (h₀:=X.base) I.ok.mod.jK hm.kp (aA (ha pos pins s1 σ H1 _ I1 q) λus s2 ⟨vs,H2,I2,r,q2⟩=>⟨I2.bL,?_⟩) hst hpl;exact V3 (us := .ref a::us) (vs := .ref a::vs) F hr hb hd hx I2 (.cons rfl r) q2
structure Mk (K:Θ) (C f:Addr):Prop where
 makes:W.makesIn K C=true
 init:fS K (.ref C) "__init__"=some (some (.ref f))
 fn:W.isFn K (.ref f)=true
 kp:eQ K (.ref C)=true
theorem Gu {pins:List (Addr×Obj)} {σ:St} {H:Hp} {s:Ζ} {Q:VK} {us:List Α} {vs:List V} (M:Mk X.K C f) (F:bG X.prog X.w X.K X.mg X.base CX k f fd ps sp) (hr:aP (k+1) X.A) (hb:Xc X.K fd ps ds) (hd:Yt aV ds)
  (hx:W7 CX X E) (I:Inv X pins σ H s) (r:Yt vs us)
  (h:∀ x dx,H x=none->H dx=none->dx≠x->sp (.ref x::(vs++aV)) (upd (upd H dx (.own x)) x (.ins C dx [])) (λv H2=>v = .non/\Q (.ref x) H2) E) :
  Χ (Ω X.prog X.w) X.A (call (.ref C) us) (EP X pins σ Q) X.xe s:=by
 have hq:=h (s.heap.objs.size+1) s.heap.objs.size (I.hok.fresh (d5 _)) (I.hok.fresh (Κ _)) (ο (Nat.lt_succ_self _));have I2:=Inv.made (C:=C) I;have r2:Yt (V.ref (s.heap.objs.size+1)::(vs++aV)) (ae (s.heap.objs.size+1)::(us++ds)) := .cons rfl (r.append hd);have hl:(ae (s.heap.objs.size+1)::us++ds).length=ps.length:=by
  have e:=r2.length;rw [F.len _ _ _ _ hq] at e
  exact e.symm
 refine wpAny_call (T7 (f:=f) I.bL M.makes M.init (beq_iff_eq.mp M.fn) (jI (F.run _ X.stack _ _ ⟨ae (s.heap.objs.size+1)::us,[]⟩ (ae (s.heap.objs.size+1)::(us++ds)) _ _ E (hr.make C us [])
  (I2.env0.make C us []) (hb _ (ae (s.heap.objs.size+1)::us) I2.bL hl) r2 hq) λr s' hq'=>?_))
 cases r with
 | error e=>exact hx pins σ _ _ e s' I2 hq'
 | ok fl =>
  cases fl with
  | ret u =>
   obtain ⟨v,H',I3,rv,ev,q3⟩:=I2.after hq';subst ev;exact ⟨rv,⟨V.ref (s.heap.objs.size+1),H',I3,rfl,q3⟩⟩
  | next=>exact b9 hq'
  | brk=>exact b9 hq'
  | cont=>exact b9 hq'
theorem Ygl (M:Mk X.K C f) (F:bG X.prog X.w X.K X.mg X.base CX k f fd ps sp) (hr:aP (k+1) X.A) (hg:Gl X x) (hm:X.mg x=some (.ref C)) (hb:Xc X.K fd ps ds) (hd:Yt aV ds) (hx:W7 CX X E)
  (ha:PA X (e::es) t) (hdb:(x==("__debug__":Str))=false:=by decide) (he:η (e::es) X.env=(false,eval e X.env)::η es X.env:=by rfl) (hpl:(b8 pos (η es X.env)).any (·.1)=false:=by rfl) :
  PE X (.Call (.Name x p) (e::es) [] pos) (Ut C sp aV E t):=by
 intro pins s σ H Q I h;refine ej (Up I hg hm ?_ hdb);refine fF (h₀:=X.base) I.ok.mod.jK M.kp (aA (ha pos pins s σ H _ I h) λus s1 ⟨vs,H1,I1,r,q⟩=>⟨I1.bL,?_⟩) he hpl;exact Gu M F hr hb hd hx I1 r q
theorem YeS (M:Mk X.K C f) (F:bG X.prog X.w X.K X.mg X.base CX k f fd ps sp) (hr:aP (k+1) X.A) (hg:Gl X x) (hm:X.mg x=some (.ref C)) (hb:Xc X.K fd ps ds) (hd:Yt aV ds) (hx:W7 CX X E)
  (hdb:(x==("__debug__":Str))=false:=by decide):PE X (.Call (.Name x p) [] [] pos) (Ut C sp aV E UM):=by
 intro pins s σ H Q I h;refine ej (Up I hg hm ?_ hdb);exact PySem.W.callWith_K0 I.bL M.kp (Gu (us:=[]) M F hr hb hd hx I .nil h)
end
structure ak (N P:List Str) (sc:ci):Prop where
 kind:sc.kind = .function
 co:sc.isCoroutine=false
 gen:sc.isGenerator=false
 nd:N.Nodup
 pre:N.take P.length=P
 par:∀ x∈P,sc.names.lookup x=some .local\/sc.names.lookup x=some .cell
 xT:∀ y∈sc.names,y.2 ≠ .free
theorem Q8 {kindOf:Str->Option gi} {x:Str}:∀ {binds:List (Str×Α)} {m:Str->Option Α},(∀ v,(x,v)∉binds)->bindL kindOf binds m x=m x
 | [],_,_=>rfl
 | (n,v)::r,m,h=>by
  unfold bindL;rw [Q8 λw hw=>h w (bE _ hw)]
  split
  ·have:x≠n:=by rintro rfl;exact h v g7
   simp [this]
  ·rfl
theorem Q9 {kindOf:Str->Option gi} {x:Str}:∀ {binds:List (Str×Α)} {m:Str->Option Α},(∀ v,(x,v)∉binds)->bindC kindOf binds m x=m x
 | [],_,_=>rfl
 | (n,v)::r,m,h=>by
  unfold bindC;rw [Q9 λw hw=>h w (bE _ hw)]
  split
  ·rfl
  ·have:x≠n:=by rintro rfl;exact h v g7
   simp [this]
theorem Gv {kindOf:Str->Option gi} {x:Str} {v:Α}:∀ {P:List Str} {vs:List Α} {i:Nat} {m:Str->Option Α},P.Nodup->P[i]?=some x->vs[i]?=some v->kindOf x=some .local ->
  bindL kindOf (P.zip vs) m x=some v
 | [],_,_,_,_,h,_,_=>by simp at h
 | _::_,[],_,_,_,_,h,_=>by simp at h
 | p::P,w::vs,0,m,nd,h1,h2,hk=>by
  simp at h1 h2;subst h1;subst h2
  show bindL kindOf ((p,w)::P.zip vs) m p=_
  unfold bindL;rw [Q8 λv hv=>(aI.mp nd).1 (gI hv).1,if_pos hk];simp
 | p::P,w::vs,i+1,m,nd,h1,h2,hk=>by
  show bindL kindOf ((p,w)::P.zip vs) m x=_
  unfold bindL;exact Gv (i:=i) (aI.mp nd).2 (by simpa using h1) (by simpa using h2) hk
theorem Gw {kindOf:Str->Option gi} {x:Str} {v:Α}:∀ {P:List Str} {vs:List Α} {i:Nat} {m:Str->Option Α},P.Nodup->P[i]?=some x->vs[i]?=some v->kindOf x≠some .local ->
  bindC kindOf (P.zip vs) m x=some v
 | [],_,_,_,_,h,_,_=>by simp at h
 | _::_,[],_,_,_,_,h,_=>by simp at h
 | p::P,w::vs,0,m,nd,h1,h2,hk=>by
  simp at h1 h2;subst h1;subst h2
  show bindC kindOf ((p,w)::P.zip vs) m p=_
  unfold bindC;rw [Q9 λv hv=>(aI.mp nd).1 (gI hv).1,if_neg hk];simp
 | p::P,w::vs,i+1,m,nd,h1,h2,hk=>by
  show bindC kindOf ((p,w)::P.zip vs) m x=_
  unfold bindC;exact Gw (i:=i) (aI.mp nd).2 (by simpa using h1) (by simpa using h2) hk
def XN (N:List Str) (vs:List V):St:=vs.map some++eW (N.length - vs.length) none
def W8 (CX:fC) (P:δ) (w:ι) (K:Θ) (mg:Str->Option Α) (base:Heap) (N:List Str) (qual:Str) (scope:ci) (f:Addr) (cd:Α) (A:ag) (outer:List Env) (s:Ζ) (H:Hp) (E:XK):Cx where
 prog:=P
 w:=w
 K:=K
 mg:=mg
 base:=base
 A:=A.deeper (iF qual scope s.heap.objs.size f cd)
 N:=N
 s₀:=s
 H₀:=H
 env:=iF qual scope s.heap.objs.size f cd
 outer:=outer
 stack:=iF qual scope s.heap.objs.size f cd::outer
 ex:=[]
 calm:=true
 fn:=λ_=>true
 pn:=[]
 xe:=λe s'=>Χ (Ω P w) (A.deeper (iF qual scope s.heap.objs.size f cd)) (leaving (iF qual scope s.heap.objs.size f cd) e) (λ_ s''=>CX outer H s E e s'') (λe' s''=>CX outer H s E e' s'') s'
theorem Gy {sc:ci} {n:Nat} {x:Str} (h:sc.names.lookup x=some .cell):∃ c,(ef n sc.names []).lookup x=some c:=by
 have q:=W.cellsFrom_some sc.names n [] (.inl h);exact Option.isSome_iff_exists.mp q
theorem Gz {CX:fC} {P:δ} {w:ι} {K:Θ} {mg:Str->Option Α} {base:Heap} {N ps:List Str} {qual:Str} {scope:ci} {f:Addr} {cd:Α} {A:ag} {outer:List Env} {s s1:Ζ} {H:Hp} {E:XK} {us:List Α} {vs:List V}
  (S:ak N ps scope) (hd:A.handled=none) (e0:fK P w K mg base A outer s H) (hl:vs.length=ps.length) (r:Yt vs us)
  (x:InCallC s s.heap.objs.size (bindL (iF qual scope s.heap.objs.size f cd).kindOf (ps.zip us) λ_=>none) (ef (s.heap.objs.size+1) scope.names []) (bindC (iF qual scope s.heap.objs.size f cd).kindOf (ps.zip us) λ_=>none) s1) :
  Inv (W8 CX P w K mg base N qual scope f cd A outer s H E) [] (XN N vs) H s1:=by
 have hpl:ps.length<=N.length:=by have:=congrArg i7 S.pre;rw [aw] at this;omega
 obtain ⟨h1,tk,rfl,hk⟩:=x.done;have jg:∀ b:Addr,b∉(W8 CX P w K mg base N qual scope f cd A outer s H E).ex:=λb z=>absurd (show b∈([]:List Addr) from z) (by simp)
 refine ⟨⟨e0.mod,S.kind,rfl,rfl,Κ _,λy z c h1 h2=>?_,λy hy=>?_,λy c _ h=>?_,λ_=>hd,Around.frames_deeper e0.frames,.inr ⟨rfl,rfl⟩,λb z=>absurd z (jg b),e0.bs,e0.gA,λb _ _=>jg b,λb z=>absurd z (jg b),e0.dG,e0.iZ⟩,
  rfl,e0.bare,Un.kept hk,⟨_,x.toInCall.ns,λi y v h1 h2 h3=>?_⟩,λy c h=>⟨_,x.cell y c h⟩,e0.hok.fresh (Κ _),λy c h=>?_,λp hp=>absurd (show p∈([]:List (Addr×Obj)) from hp) (by simp),e0.hok.kept hk,?_⟩
 ·exact name_of_addr x.apart (bj h1) (bj h2)
 ·have hy:scope.names.lookup y=some .cell\/scope.names.lookup y=some .free:=hy
  rcases hy with hy | hy
  ·exact Gy hy
  ·exact absurd rfl (S.xT _ (bj hy))
 ·exact ge (x.above y c (bj h))
 ·have hi:i<vs.length:=by
   unfold XN at h2;by_cases hi:i<vs.length
   ·exact hi
   ·rw [ax (by simpa using hi)] at h2
    rw [fk] at h2
    split at h2<;>cases h2
  have ha:vs[i]?=some v:=by
   unfold XN at h2;rw [av (by simpa using hi),Λ] at h2
   cases e:vs[i]? with
   | none=>rw [e] at h2;cases h2
   | some a=>rw [e] at h2;cases h2;rfl
  obtain ⟨u,hu,rv⟩:=r.get ha;have hp:ps[i]?=some y:=by
   rw [<- S.pre,List.getElem?_take_of_lt (by omega)];exact h1
  have uQ:ps.Nodup:=by rw [<- S.pre];exact S.nd.sublist (List.take_sublist _ _)
  refine ⟨u,rv,?_⟩;rcases S.par y (Ξ hp) with k | k
  ·exact .inl ⟨k,Gv uQ hp hu k⟩
  ·obtain ⟨c,e⟩:=Gy (n:=s.heap.objs.size+1) k
   refine .inr ⟨.inl k,c,e,?_⟩;have q:=x.cell y c e;rw [Gw uQ hp hu (by show scope.names.lookup y≠_;rw [k];decide)] at q
   exact q
 ·exact e0.hok.fresh (ge (x.above y c (bj h)))
 ·unfold XN
  show _=N.length
  rw [Μ,Β,bn];omega
theorem GC {CX:fC} {P:δ} {w:ι} {K:Θ} {mg:Str->Option Α} {base:Heap} {k:Nat} {f:Addr} {name qual:Str} {params:Arguments} {body:List Stmt} {scope:ci} {dV kV doc pm cdv ct oc:Α} {an od:Option Addr}
  {osl:Array (Option Α)} {N ps:List Str} {sp:Sp} (lk:K.lookup f=some ⟨oc,od,.func (c8 name qual params body scope dV kV doc pm an cdv ct),osl⟩) (hcd:ie K cdv qual=true) (S:ak N ps scope)
  (len:∀ vs H Q E,sp vs H Q E->vs.length=ps.length)
  (hbody:∀ (A:ag) (outer:List Env) (s:Ζ) (H:Hp) (vs:List V) (Q:VK) (E:XK),aP k (A.deeper (iF qual scope s.heap.objs.size f cdv))->sp vs H Q E ->
   ∃ t,eN (W8 CX P w K mg base N qual scope f cdv A outer s H E) body t/\t { nx:=λ_ H'=>Q .non H',rt:=Q } (XN N vs) H) :
  bG P w K mg base CX (k+1) f (c8 name qual params body scope dV kV doc pm an cdv ct) ps sp:=by
 refine ⟨len,λA outer s H args us vs Q E hr e0 hb r hsp=>?_⟩;have hl:=len _ _ _ _ hsp;have KX:K.In s.heap:=e0.mod.jK.keeps λb o e=>(e0.bs b o e).1
 have lim:s.heap.NoLimit:=e0.mod.nolimit.keeps λb o e=>(e0.bs b o e).1
 have hkind:∀ y∈ps.zip us,scope.names.lookup y.1=some .local\/(scope.names.lookup y.1=some .cell/\((ef (s.heap.objs.size+1) scope.names []).lookup y.1).isSome=true):=λ⟨n,v⟩ hy=>by
  rcases S.par n (gI hy).1 with q | q
  ·exact .inl q
  ·exact .inr ⟨q,W.cellsFrom_some _ _ _ (.inl q)⟩
 refine codeAny_call_function hr.depth (KX _ _ lk) rfl S.co S.gen rfl (W.codeRec_of KX hcd) (hb _ _ _ _ ?_);refine wpAny_newFunctionEnv_cells S.kind hkind λenv he s1 x=>?_
 subst he;refine ⟨lim.keeps x.toInCall.keep,codeAny_func ?_⟩;obtain ⟨t,ht,hq⟩:=hbody A outer s H vs Q E (hr.deeper _) hsp;have I:Inv (W8 CX P w K mg base N qual scope f cdv A outer s H E) [] (XN N vs) H s1:=Gz S hr.hd e0 hl r x;refine a5 (ht [] s1 (XN N vs) H _ I hq) (λfl s' hs=>?_) λe s' hs=>hs
 have fin:∀ {σ':St} {H':Hp} {v:V} {u:Α},Inv (W8 CX P w K mg base N qual scope f cdv A outer s H E) [] σ' H' s'->YB v u->Q v H'->CE outer P w H s Q u s' :=
  λ{σ' H' v u} J rv q=>⟨v,H',J.os,J.bare,J.base,J.hok,rv,q⟩
 cases fl with
 | ret u =>
  obtain ⟨v,σ',H',J,rv,q⟩:=hs;exact fin J rv q
 | next =>
  obtain ⟨σ',H',J,q⟩:=hs;exact fin (v:=V.non) (u:=ic) J rfl q
 | brk =>
  obtain ⟨_,_,_,q⟩:=hs;exact b9 q
 | cont =>
  obtain ⟨_,_,_,q⟩:=hs;exact b9 q
section
variable {X:Cx} {x:Str} {p pos:Pos} {e:Expr} {es:List Expr} {t:TA} {id T:String} {r:List V->Hp->VK->Prop}
def mZ (r:List V->Hp->VK->Prop) (t:TA):TE:=λσ H Q=>t σ H λvs H1=>r vs H1 Q
theorem YeT (hc:XU X (.builtin id) r) (hg:Gl X x) (hm:X.mg x=none) (hv:eh x=some (.builtin id)) (ha:PA X (e::es) t) (hn:x≠"__name__":=by decide) (hdb:(x==("__debug__":Str))=false:=by decide)
  (he:η (e::es) X.env=(false,eval e X.env)::η es X.env:=by rfl) (hpl:(b8 pos (η es X.env)).any (·.1)=false:=by rfl):PE X (.Call (.Name x p) (e::es) [] pos) (mZ r t):=by
 intro pins s σ H Q I h;refine ej (W3 I hg hm hv ?_ hn hdb);exact PyProof.Rows.callWith_builtin1 (aA (ha pos pins s σ H _ I h) λus s1 ⟨vs,H1,I1,r1,q1⟩=>hc pins s1 σ H1 vs us Q I1 r1 q1) he hpl
theorem YdO (hc:XU X (.type T) r) (hg:Gl X x) (hm:X.mg x=none) (hv:eh x=some (.type T)) (ha:PA X (e::es) t) (hn:x≠"__name__":=by decide) (hdb:(x==("__debug__":Str))=false:=by decide)
  (he:η (e::es) X.env=(false,eval e X.env)::η es X.env:=by rfl) (hpl:(b8 pos (η es X.env)).any (·.1)=false:=by rfl):PE X (.Call (.Name x p) (e::es) [] pos) (mZ r t):=by
 intro pins s σ H Q I h;refine ej (W3 I hg hm hv ?_ hn hdb);exact cS (aA (ha pos pins s σ H _ I h) λus s1 ⟨vs,H1,I1,r1,q1⟩=>hc pins s1 σ H1 vs us Q I1 r1 q1) he hpl
end
end L2
namespace HT
open PySem PyProof.Rows
section
variable {prog:δ} {w:ι} {A:ag} {E:Α->Ζ->Prop} {s:Ζ}
theorem wB {t b:Addr} {vs ws:List Α} {Q:Α->Ζ->Prop} (ht:IsTup s.heap t vs.toArray) (hb:IsTup s.heap b ws.toArray) (hv:vs≠[])
  (h1:ws=[]->Q (.ref t) s) (h2:ws≠[]->Q (.ref s.heap.objs.size) { s with heap:=s.heap.push { cls := .type "tuple",data := .seq (vs++ws).toArray } })
  (hsz:vs.length+ws.length<=sizeLine):Χ (Ω prog w) A (di .Add (.ref t) (.ref b)) Q E s:=by
 obtain ⟨⟨cls,dd,data,sl⟩,ho,hc,n,hd⟩:=id ht;obtain ⟨⟨cls2,dd2,data2,sl2⟩,ho2,hc2,n2,hd2⟩:=id hb;simp only at hc hd hc2 hd2;subst hc hd hc2 hd2;have e:vs.toArray++ws.toArray=(vs++ws).toArray:=by simp
 by_cases hw:ws=[]
 ·exact concat_meets ⟨_,ho,rfl⟩ ⟨_,ho2,rfl⟩ noFill_tuple_add seq_tuple_add PySem.F.slot_tuple_add PySem.F.entry_tuple_add (PySem.F.args_tuple_add_2 _ _)
   (tuple_addW1 t b vs.toArray ws.toArray n n2 dd dd2 sl sl2 (by simpa using hv) (by simp [hw])) ⟨ho,ho2,h1 hw⟩
 ·refine concat_meets ⟨_,ho,rfl⟩ ⟨_,ho2,rfl⟩ noFill_tuple_add seq_tuple_add PySem.F.slot_tuple_add PySem.F.entry_tuple_add (PySem.F.args_tuple_add_2 _ _)
   (tuple_addW2 t b vs.toArray ws.toArray n n2 dd dd2 sl sl2 (by simpa using hv) (by simpa using hw) (by rw [ψ,ψ];exact hsz)) ⟨ho,ho2,?_⟩
  rw [e];exact h2 hw
def aN (n d:Nat):Option Int->Nat
 | none=>d
 | some v=>if v<0 then (v+(n:Int)).toNat else min v.toNat n
theorem tK (n d:Nat):aN n d none=d:=rfl
theorem gZ (n d k:Nat):aN n d (some (k:Int))=min k n:=by
 show (if (k:Int)<0 then ((k:Int)+(n:Int)).toNat else min (k:Int).toNat n)=min k n
 rw [if_neg (by omega),br]
theorem kZ (n d:Nat) (hd:d<=n) (o:Option Int):aN n d o<=n:=by
 cases o with
 | none=>exact hd
 | some v =>
  show (if v<0 then (v+(n:Int)).toNat else min v.toNat n)<=n
  by_cases hv:v<0
  ·rw [if_pos hv];omega
  ·rw [if_neg hv];exact Nat.min_le_right _ _
theorem GD (v:Int) (n d:Nat):(if v<0 then max (v+(n:Int)) 0 else min v (n:Int))=((aN n d (some v):Nat):Int):=by
 show (if v<0 then max (v+(n:Int)) 0 else min v (n:Int))=(((if v<0 then (v+(n:Int)).toNat else min v.toNat n):Nat):Int)
 by_cases hv:v<0
 ·simp only [if_pos hv];omega
 ·simp only [if_neg hv];omega
theorem YcU (lo hi:Option Int) (n:Nat):ce lo hi 1 (n:Int)=(((aN n 0 lo:Nat):Int),((aN n n hi:Nat):Int)):=by
 have h1:¬ ((1:Int)<0):=by omega
 unfold ce;simp only [h1,if_false];refine Prod.ext ?_ ?_
 ·cases lo with
  | none=>rfl
  | some v=>exact GD v n 0
 ·cases hi with
  | none=>rfl
  | some v=>exact GD v n n
theorem YcV (i j:Nat):ba (i:Int) (j:Int) 1=j - i:=by
 unfold ba;have h1:(1:Int)>0:=by omega
 simp only [h1,if_true,gS]
 split<;>omega
theorem Qe {v:Α} {o:Option Int} {Q:Option Int->Ζ->Prop} (p:IsPart v o) (h:Q o s):Χ (Ω prog w) A (Builtin.Slice.slicePartIndex v) Q E s:=by
 cases p with
 | none=>exact i4 h
 | int i t=>exact slicePart_int h
theorem UN {sl:Addr} {vl vu:Α} {lo hi:Option Int} {n:Nat} {Q:Int×Int×Nat->Ζ->Prop} (hs:s.heap.IsSliceOf sl vl vu .none) (pl:IsPart vl lo) (pu:IsPart vu hi)
  (h:Q (((aN n 0 lo:Nat):Int),1,aN n n hi - aN n 0 lo) s):Χ (Ω prog w) A (eI (.ref sl) (pure (n:Int))) Q E s:=by
 obtain ⟨os,hos,hcs,hds⟩:=id hs;unfold eI Builtin.Slice.sliceFields;refine Ι (Ι (ik hos hds (x:=vl) rfl (Ι (ik hos hds (x:=vu) rfl (Ι (ik hos hds (x := .none) rfl (Ρ ?_)))))));refine Ι (i4 ?_)
 show Χ _ _ (if ((1:Int)==0)=true then _ else _) _ _ s
 rw [if_neg (by decide)];refine Ι (Qe pl (Ι (Qe pu (Ι (Ρ ?_)))))
 show Χ _ _ (match ce lo hi 1 (n:Int) with | (lo,hi)=>pure (lo,(1:Int),ba lo hi 1)) _ _ s
 rw [YcU lo hi n]
 show Χ _ _ (pure (((aN n 0 lo:Nat):Int),(1:Int),ba ((aN n 0 lo:Nat):Int) ((aN n n hi:Nat):Int) 1)) _ _ s
 rw [YcV];exact Ρ h
theorem YeU (xs:Array Α) (i k:Nat):((ζ k).filterMap λ(m:Nat)=>xs[((i:Int)+(m:Int)*1).toNat]?).toArray=((xs.toList.drop i).take k).toArray:=by
 have e:(λ(m:Nat)=>xs[((i:Int)+(m:Int)*1).toNat]?)=λm=>xs[i+m]?:=by
  funext m
  have:((i:Int)+(m:Int)*1).toNat=i+m:=by omega
  rw [this]
 rw [e];have:=pick_run xs i k;rw [g9] at this
 have e2:((λx=>xs[x]?) ∘ λx=>i+x)=λm=>xs[i+m]?:=rfl
 rw [e2] at this
 rw [this]
theorem iy {t sl:Addr} {items:Array Α} {vl vu:Α} {lo hi:Option Int} {Q:Α->Ζ->Prop} (ht:IsTup s.heap t items) (hs:s.heap.IsSliceOf sl vl vu .none) (pl:IsPart vl lo) (pu:IsPart vu hi)
  (hw:¬ (aN items.size 0 lo=0/\aN items.size items.size hi=items.size))
  (h:Q (.ref s.heap.objs.size) { s with heap:=s.heap.push { cls := .type "tuple",data := .seq ((items.toList.drop (aN items.size 0 lo)).take (aN items.size items.size hi - aN items.size 0 lo)).toArray } })
  (hsz:items.size<=sizeLine):Χ (Ω prog w) A (fq (.ref t) (.ref sl)) Q E s:=by
 have eF:sizeOk (.seq ((items.toList.drop (aN items.size 0 lo)).take (aN items.size items.size hi - aN items.size 0 lo)).toArray):=by
  show ((items.toList.drop (aN items.size 0 lo)).take (aN items.size items.size hi - aN items.size 0 lo)).toArray.size<=sizeLine
  rw [ψ,aw,ir,gE];omega
 have hj:aN items.size items.size hi<=items.size:=kZ _ _ (Κ _) hi;obtain ⟨os,hos,hcs,hds⟩:=id hs;have hTs:s.TypeIs (.ref sl) "slice":=⟨os,hos,hcs⟩;unfold fq
 try with_reducible refine i9 ?_
 first | refine Ι (Ρ ?_) | skip
 refine Ι (wpAny_sequenceKey ht.typeIs (by decide) ?_);refine Ι (wpAny_callSpecial?_slot (name:=ei "__getitem__") ht.typeIs de
  (gs de ht.typeIs entry_tuple_getitem ?_ (args_tuple_getitem _ _)))
 show Χ _ _ (Builtin.Tuple.tupleItemsOf (.ref t) >>= _) _ _ s
 refine Ι (tupleItemsOf_ ht ?_);refine Ι (jv hTs ?_);rw [if_pos (by decide)];refine Ι (UN hs pl pu ?_);have hno:¬ ((((aN items.size 0 lo:Nat):Int)==0&&(1:Int)==1&&(aN items.size items.size hi - aN items.size 0 lo)==items.size)=true):=by
  intro q;rw [fc,fc] at q
  have q1:((aN items.size 0 lo:Nat):Int)=0:=eq_of_beq q.1.1;have q2:aN items.size items.size hi - aN items.size 0 lo=items.size:=eq_of_beq q.2;exact hw ⟨by omega,by omega⟩
 show Χ _ _ (if (((aN items.size 0 lo:Nat):Int)==0&&(1:Int)==1&&(aN items.size items.size hi - aN items.size 0 lo)==items.size)=true then _ else _) _ _ s
 rw [if_neg hno,YeU]
 first
  | exact Ι (m:=bg _) (bp (Ρ ⟨_,rfl,Ρ h⟩) eF)
  | exact Ι (m:=bg _) (bp (Ι (Ρ (Ρ ⟨_,rfl,Ρ h⟩))) eF)
  | exact Ι (Ι (m:=bg _) (bp (Ρ (Ρ ⟨_,rfl,Ρ h⟩)) eF))
  | exact Ι (Ι (m:=bg _) (bp (Ρ ⟨_,rfl,Ρ h⟩) eF))
end
end HT
namespace L2
open PySem PySem.Spec PyProof.Rows
abbrev TO:=St->Hp->(Option Int->Hp->Prop)->Prop
def PO (X:Cx) (e:Option Expr) (t:TO):Prop :=
 ∀ (pins:List (Addr×Obj)) (s:Ζ) (σ:St) (H:Hp) (Q:Option Int->Hp->Prop),Inv X pins σ H s->t σ H Q ->
  Χ (Ω X.prog X.w) X.A (evalPart e X.env) (λu s'=>∃ o H',Inv X pins σ H' s'/\IsPart u o/\Q o H') X.xe s
def QA:TO:=λ_ H Q=>Q none H
def xU (t:TE):TO:=λσ H Q=>t σ H λx H1=>kI x λi=>Q (some i) H1
theorem YcX {ns:List Int}:∀ {us:List Α},Yt (ns.map V.int) us->IntsAre us ns:=by
 induction ns with
 | nil=>intro us r;rw [fb] at r;cases r;exact .nil
 | cons n ns ih =>
  intro us r;rw [χ] at r
  cases r with
  | cons r1 r2 =>
   obtain ⟨t,e⟩:=r1;subst e;exact .cons n t (ih r2)
section
variable {X:Cx} {e:Expr} {te:TE} {lo hi:Option Expr} {tl th:TO} {pos p2:Pos}
theorem Ygm:PO X none QA:=by
 intro pins s σ H Q I h;rw [evalPart_none];exact Ρ ⟨none,H,I,.none,h⟩
theorem QB (h:PE X e te):PO X (some e) (xU te):=by
 intro pins s σ H Q I hw;rw [evalPart_some];refine aA (h pins s σ H _ I hw) λu s1 ⟨x,H1,I1,r1,q1⟩=>?_
 obtain ⟨i,rfl,q⟩:=Qy.mp q1;obtain ⟨t,rfl⟩:=r1;exact ⟨some i,H1,I1,.int i t,q⟩
def xV (X:Cx) (r:V->Option Int->Option Int->Hp->VK->Prop):Prop :=
 ∀ (pins:List (Addr×Obj)) (s:Ζ) (σ:St) (H:Hp) (x:V) (v vl vu:Α) (lo hi:Option Int) (sl:Addr) (Q:VK),Inv X pins σ H s->YB x v->s.heap.IsSliceOf sl vl vu .none->IsPart vl lo->IsPart vu hi->r x lo hi H Q ->
  ∃ T id,typeLookup (.type T) "__getitem__"=pure (some (.builtin id))/\s.TypeIs v T/\Χ (Ω X.prog X.w) X.A (fq v (.ref sl)) (EP X pins σ Q) X.xe s
def xW (r:V->Option Int->Option Int->Hp->VK->Prop) (te:TE) (tl th:TO):TE:=λσ H Q=>te σ H λx H1=>tl σ H1 λl H2=>th σ H2 λu H3=>r x l u H3 Q
theorem GF {r:V->Option Int->Option Int->Hp->VK->Prop} (hr:xV X r) (he:PE X e te) (hl:PO X lo tl) (hu:PO X hi th):PE X (.Subscript e (.Slice lo hi none p2) pos) (xW r te tl th):=by
 intro pins s σ H Q I h;refine Subscript_ (aA (he pins s σ H _ I h) λv s1 ⟨x,H1,I1,r1,q1⟩=>?_);refine wpAny_Slice (aA (hl pins s1 σ H1 _ I1 q1) λvl s2 ⟨l,H2,I2,pl,q2⟩=>aA (hu pins s2 σ H2 _ I2 q2) λvu s3 ⟨u,H3,I3,pu,q3⟩=>?_);rw [evalPart_none];refine Ρ ?_;have I4:Inv X pins σ H3 { s3 with heap:=s3.heap.push { cls := .type "slice",data := .fields #[vl,vu,.none] } }:=I3.kept (t':=s3.toks) λb ob q=>Ο _ q
 obtain ⟨T,id,hT,ht,hg⟩:=hr pins { s3 with heap:=s3.heap.push { cls := .type "slice",data := .fields #[vl,vu,.none] } } σ H3 x v vl vu l u s3.heap.objs.size Q I4 r1 (Heap.IsSliceOf.new ..) pl pu q3
 show Χ (Ω X.prog X.w) X.A (subscriptTail e (.Slice lo hi none p2) v (.ref s3.heap.objs.size)) (EP X pins σ Q) X.xe { s3 with heap:=s3.heap.push { cls := .type "slice",data := .fields #[vl,vu,.none] } }
 exact tail_any (ops:=[.ref s3.heap.objs.size,v]) ht hT hg (by with_unfolding_all rfl)
def UO (xs:List V) (lo hi:Option Int):List V:=(xs.drop (HT.aN xs.length 0 lo)).take (HT.aN xs.length xs.length hi - HT.aN xs.length 0 lo)
theorem YbD (xs:List V) (lo hi:Option Int):(UO xs lo hi).length<=xs.length:=by
 unfold UO;rw [aw,ir];omega
def Ro (K:Θ):V->Option Int->Option Int->Hp->VK->Prop:=λx lo hi H Q=>∃ a xs,x = .ref a/\aJ K H a xs /\
 ¬ (HT.aN xs.length 0 lo=0/\HT.aN xs.length xs.length hi=xs.length)/\∀ p,H p=none->Q (.ref p) (upd H p (.tup (UO xs lo hi)))
theorem Yhb:xV X (Ro X.K):=by
 intro pins s σ H x v vl vu lo hi sl Q I rx hs pl pu h;obtain ⟨a,xs,rfl,hx,hw,q⟩:=h
 cases rx
 obtain ⟨its,r,ht,hz⟩:=I.tuple hx;have hlen:its.toArray.size=xs.length:=by rw [ψ];exact r.length.symm
 refine ⟨"tuple",_,PyProof.Rows.slot_tuple_getitem.lookup,ht.typeIs,?_⟩;refine HT.iy ht hs pl pu (by rw [hlen];exact hw) ?_ (by rw [hlen];exact hz);rw [hlen];refine ⟨.ref s.heap.objs.size,_,I.laid (t':=s.toks) (o := .tup (UO xs lo hi)) (λb ob q=>Ο _ q) (Κ _) ?_,rfl,q _ (I.hok.fresh (Κ _))⟩;exact ⟨Τ (YbD xs lo hi) hz,_,(r.drop (HT.aN xs.length 0 lo)).take (HT.aN xs.length xs.length hi - HT.aN xs.length 0 lo),IsTup.new _ _⟩
def Em (K:Θ):R2:=λx y H Q=>∃ a b xs ys,x = .ref a/\y = .ref b/\aJ K H a xs/\aJ K H b ys/\xs≠[]/\xs.length+ys.length<=sizeLine /\
 (ys=[]->Q (.ref a) H)/\(ys≠[]->∀ p,H p=none->Q (.ref p) (upd H p (.tup (xs++ys))))
theorem Yt.g8 {xs:List V} {us:List Α} (r:Yt xs us):us=[]↔xs=[]:=by
 cases r with
 | nil=>simp
 | cons _ _=>simp
theorem Ygn:bM X (di .Add) (Em X.K):=by
 intro pins s σ H x y v u Q I rx ry h;obtain ⟨a,b,xs,ys,rfl,rfl,ha,hb,hx,hz,q1,q2⟩:=h
 cases rx
 cases ry
 obtain ⟨its,r1,p1,_⟩:=I.tuple ha;obtain ⟨its2,r2,p2,_⟩:=I.tuple hb;refine HT.wB p1 p2 (λz=>hx (r1.g8.mp z)) (λz=>⟨.ref a,H,I,rfl,q1 (r2.g8.mp z)⟩) (λz=>?_) (by rw [<- r1.length,<- r2.length];exact hz);refine ⟨.ref s.heap.objs.size,_,I.laid (t':=s.toks) (o := .tup (xs++ys)) (λb ob q=>Ο _ q) (Κ _) ?_,rfl,q2 (λw=>z (r2.g8.mpr w)) _ (I.hok.fresh (Κ _))⟩;exact ⟨by rw [Μ];exact hz,_,r1.append r2,IsTup.new _ _⟩
end
def jh (n:Nat) (i:Int):Option Nat:=if 0<=i then (if i<n then some i.toNat else none) else if -(n:Int)<=i then some (i+n).toNat else none
def dZ {α:Type} (xs:List α) (i:Int):Option α:=(jh xs.length i).bind λj=>xs[j]?
theorem Ygo {n:Nat} {i:Int} {j:Nat} (h:jh n i=some j):seqIndex? i n=some j/\j<n /\ -(n:Int)<=i/\i<n:=by
 unfold jh at h;by_cases h0:0<=i
 ·rw [if_pos h0] at h
  by_cases h1:i<n
  ·rw [if_pos h1] at h
   have e:i.toNat=j:=Δ h;exact ⟨by rw [seqIndex_of h0 h1,e],by omega,by omega,h1⟩
  ·rw [if_neg h1] at h;cases h
 ·rw [if_neg h0] at h
  by_cases h1 : -(n:Int)<=i
  ·rw [if_pos h1] at h
   have e:(i+n).toNat=j:=Δ h;exact ⟨by rw [seqIndex_neg (by omega) h1,e],by omega,h1,by omega⟩
  ·rw [if_neg h1] at h;cases h
theorem QC {α:Type} {xs:List α} {i:Int} {v:α} (h:dZ xs i=some v):∃ j,seqIndex? i xs.length=some j/\xs[j]?=some v/\j<xs.length /\ -(xs.length:Int)<=i/\i<xs.length:=by
 unfold dZ at h
 cases e:jh xs.length i with
 | none=>rw [e] at h;cases h
 | some j =>
  rw [e] at h
  obtain ⟨h1,h2,h3,h4⟩:=Ygo e;exact ⟨j,h1,h,h2,h3,h4⟩
theorem Yo {α:Type} {xs:List α} {j:Nat} {v:α} (h:xs[j]?=some v):dZ xs (j:Int)=some v:=by
 have hj:j<xs.length:=(Η.mp h).1;have e:jh xs.length (j:Int)=some j:=by
  unfold jh;rw [if_pos (by omega),if_pos (by omega)];simp
 unfold dZ;rw [e];exact h
theorem YeV {α:Type} (xs:List α) (v:α):dZ (xs++[v]) (-1)=some v:=by
 have hl:(xs++[v]).length=xs.length+1:=by simp
 have e:jh (xs++[v]).length (-1)=some xs.length:=by
  unfold jh;rw [hl,if_neg (by decide),if_pos (by omega)]
  congr 1
  omega
 unfold dZ;rw [e]
 show (xs++[v])[xs.length]?=some v
 simp
def Ygp (b:Expr):Prop:=∀ o i,subscripted b false o i=operate [o,i] (fq o i)
def m6 (X:Cx) (r:R2):Prop :=
 ∀ (value slice:Expr) (pins:List (Addr×Obj)) (s:Ζ) (σ:St) (H:Hp) (x y:V) (v u:Α) (Q:VK),Inv X pins σ H s->YB x v->YB y u->r x y H Q ->
  subscripted slice false v u=operate [v,u] (fq v u)->Χ (Ω X.prog X.w) X.A (subscriptTail value slice v u) (EP X pins σ Q) X.xe s
def uR (X:Cx) (id:String) (r:V->List V->Hp->VK->Prop):Prop :=
 ∀ (pins:List (Addr×Obj)) (s:Ζ) (σ:St) (H:Hp) (x:V) (xs:List V) (v:Α) (us:List Α) (Q:VK),Inv X pins σ H s->YB x v->Yt xs us->r x xs H Q ->
  Χ (Ω X.prog X.w) X.A (call (.builtin id) (v::us)) (EP X pins σ Q) X.xe s
section
variable {X:Cx} {a b:Expr} {ta tb:TE} {pos:Pos}
theorem Yr {r:R2} (hr:m6 X r) (ha:PE X a ta) (hb:PE X b tb) (hs:Ygp b:=by exact λ_ _=>rfl):PE X (.Subscript a b pos) (mX r ta tb):=by
 intro pins s σ H Q I h;exact Subscript_ (sZ ha hb I h λv u s2 x y H2 I2 rx ry q=>hr a b pins s2 σ H2 x y v u Q I2 rx ry q (hs _ _))
inductive jM (S:List V->Prop) (i:Int) (Q:V->Prop):Prop
 | mk (xs:List V) (h:S xs) (v:V) (e:dZ xs i=some v) (q:Q v)
def uT (K:Θ):R2:=λx y H Q=>kR x λp=>kI y λi=>jM (au K H p) i λv=>Q v H
theorem jM.e {S:Addr->List V->Prop} {x y:V} {Q:V->Prop} (h:kR x λp=>kI y λi=>jM (S p) i Q):∃ p xs i v,x = .ref p/\y = .int i/\S p xs/\dZ xs i=some v/\Q v:=by
 obtain ⟨p,e1,h⟩:=Vm.mp h;obtain ⟨i,e2,xs,h1,v,h2,h3⟩:=Qy.mp h;exact ⟨p,xs,i,v,e1,e2,h1,h2,h3⟩
def uU (K:Θ):R2:=λx y H Q=>kR x λp=>kI y λi=>jM (aJ K H p) i λv=>Q v H
def xX:R2:=λx y H Q=>∃ z i c,x = .str z/\y = .int i/\z.length<=sizeLine/\dZ z.cps.toList i=some c/\Q (.str ⟨#[c]⟩) H
theorem YQ:m6 X (uT X.K):=by
 intro value slice pins s σ H x y v u Q I rx ry h hs
 replace h:=jM.e h
 obtain ⟨p,xs,i,z,rfl,rfl,hq,he,q⟩:=h
 cases rx
 obtain ⟨t,rfl⟩:=ry;obtain ⟨its,r,pl,hz⟩:=I.list hq;obtain ⟨j,h1,h2,h3,h4,h5⟩:=QC he;obtain ⟨w,ew,gC⟩:=r.get h2;have hl:=r.length;have hn:=V1;have fin:EP X pins σ Q w s:=⟨z,H,I,gC,q⟩;by_cases h0:0<=i
 ·have hj:i.toNat=j:=by
   rw [seqIndex_of h0 h5] at h1
   exact Δ h1
  exact item_listR pl.isList h0 (by omega) (by rw [hj];simpa using ew) fin hs
 ·have hj:(i+(its.toArray.size:Int)).toNat=j:=by
   rw [seqIndex_neg (by omega) h4] at h1
   rw [ψ,<- hl];exact Δ h1
  exact subscriptTail_builtinR (x:=w) pl.isList.typeIs slot_list_getitem.lookup
   (wpAny_getItem_list_neg (Q:=λr s'=>r=w/\EP X pins σ Q r s') pl.isList (by omega) (by rw [ψ]<;>omega) (by omega) (by rw [hj];simpa using ew) ⟨rfl,fin⟩) hs
theorem YD:m6 X (uU X.K):=by
 intro value slice pins s σ H x y v u Q I rx ry h hs
 replace h:=jM.e h
 obtain ⟨p,xs,i,z,rfl,rfl,hq,he,q⟩:=h
 cases rx
 obtain ⟨t,rfl⟩:=ry;obtain ⟨its,r,pl,hz⟩:=I.tuple hq;obtain ⟨j,h1,h2,h3,h4,h5⟩:=QC he;obtain ⟨w,ew,gC⟩:=r.get h2;have hl:=r.length;have hn:=V1;have fin:EP X pins σ Q w s:=⟨z,H,I,gC,q⟩;exact subscriptTail_builtinR (x:=w) pl.typeIs slot_tuple_getitem.lookup
  (getItem_tuple (j:=j) (Q:=λr s'=>r=w/\EP X pins σ Q r s') pl (by omega) (by omega) (by rw [ψ,<- hl];exact h1) (by simpa using ew) ⟨rfl,fin⟩) hs
theorem GJ:m6 X xX:=by
 intro value slice pins s σ H x y v u Q I rx ry h hs;obtain ⟨z,i,c,rfl,rfl,hz,he,q⟩:=h;obtain ⟨t,rfl⟩:=rx;obtain ⟨t',rfl⟩:=ry;obtain ⟨j,h1,h2,h3,h4,h5⟩:=QC he;have hl:z.cps.toList.length=z.length:=by simp [kr]
 rw [hl] at h1 h4 h5
 have hn:=V1;exact tail_any (typeIs_str s z t) slot_str_getitem.lookup (getItem_str (c:=c) (by
  have e1:decide (i < -(2^63:Int))=false:=decide_eq_false (by omega);have e2:decide (i>=2^63)=false:=decide_eq_false (by omega);rw [e1,e2,Bool.or_false]) (by rw [h1];simpa using h2) ⟨.str ⟨#[c]⟩,H,I.tok _,⟨_,rfl⟩,q⟩) hs
def GK:V->V->V->Hp->(Hp->Prop)->Prop:=λo i v H Q=>∃ p xs k j,o = .ref p/\i = .int k/\H p=some (.lst xs)/\jh xs.length k=some j/\Q (upd H p (.lst (xs.set j v)))
inductive SlQ (K:Θ) (H:Hp) (a:Addr) (Q:List V->Prop):Prop
 | mk (xs:List V) (h:au K H a xs) (q:Q xs)
def xY (K:Θ):V->Option Int->Option Int->Hp->VK->Prop:=λx lo hi H Q=>kR x λa=>SlQ K H a λxs=>∀ p,H p=none->Q (.ref p) (upd H p (.lst (UO xs lo hi)))
def Vg:V->Bool
 | .non=>true
 | .bl _=>true
 | .int _=>true
 | .str _=>true
 | _=>false
def jN:V->V->Bool
 | .non,.non=>true
 | .bl a,.bl b=>a==b
 | .bl a,.int b=>(if a then 1 else 0)==b
 | .int a,.bl b=>a==(if b then 1 else 0)
 | .int a,.int b=>a==b
 | .str a,.str b=>a==b
 | _,_=>false
theorem Yhc {A:ag} {s:Ζ} {y x:V} {u v:Α} (ry:YB y u) (rx:YB x v) (fy:Vg y=true) (fx:Vg x=true):SeqAt.EqAt A s u v (jN y x):=by
 cases y with
 | non =>
  cases ry
  cases x with
  | non=>cases rx;exact SeqAt.EqAt.same _
  | bl b=>cases rx;exact SeqAt.EqAt.none_bool b
  | int b=>obtain ⟨t,rfl⟩:=rx;exact SeqAt.EqAt.none_int b t
  | str b=>obtain ⟨t,rfl⟩:=rx;exact SeqAt.EqAt.none_str b t
  | _=>exact absurd (show false=true from fx) τ
 | bl a =>
  cases ry
  cases x with
  | non=>cases rx;exact SeqAt.EqAt.bool_none a
  | bl b=>cases rx;exact SeqAt.EqAt.bool_bool a b
  | int b=>obtain ⟨t,rfl⟩:=rx;exact SeqAt.EqAt.bool_int a b t
  | str b=>obtain ⟨t,rfl⟩:=rx;exact SeqAt.EqAt.bool_str a b t
  | _=>exact absurd (show false=true from fx) τ
 | int a =>
  obtain ⟨t',rfl⟩:=ry
  cases x with
  | non=>cases rx;exact SeqAt.EqAt.int_none a t'
  | bl b=>cases rx;exact SeqAt.EqAt.int_bool a t' b
  | int b=>obtain ⟨t,rfl⟩:=rx;exact SeqAt.EqAt.int_int a t' b t
  | str b=>obtain ⟨t,rfl⟩:=rx;exact SeqAt.EqAt.int_str a t' b t
  | _=>exact absurd (show false=true from fx) τ
 | str a =>
  obtain ⟨t',rfl⟩:=ry
  cases x with
  | non=>cases rx;exact SeqAt.EqAt.str_none a t'
  | bl b=>cases rx;exact SeqAt.EqAt.str_bool a t' b
  | int b=>obtain ⟨t,rfl⟩:=rx;exact SeqAt.EqAt.str_int a t' b t
  | str b=>obtain ⟨t,rfl⟩:=rx;exact SeqAt.EqAt.str_str a t' b t
  | _=>exact absurd (show false=true from fx) τ
 | _=>exact absurd (show false=true from fy) τ
def ji (x:V) (u:Α):Bool:=match u with
 | .none=>jN .non x
 | .bool b=>jN (.bl b) x
 | .int i _=>jN (.int i) x
 | .str z _=>jN (.str z) x
 | _=>false
theorem GP {x y:V} {u:Α} (r:YB y u) (f:Vg y=true):ji x u=jN y x:=by
 cases y with
 | non=>cases r;rfl
 | bl b=>cases r;rfl
 | int i=>obtain ⟨t,rfl⟩:=r;rfl
 | str z=>obtain ⟨t,rfl⟩:=r;rfl
 | _=>exact absurd (show false=true from f) τ
theorem QD {x:V}:∀ {xs:List V} {us:List Α},Yt xs us->xs.all Vg=true->us.any (ji x)=xs.any λy=>jN y x
 | _,_,.nil,_=>rfl
 | y::xs,u::us,.cons r t,f=>by
  rw [List.all_cons,fc] at f
  rw [List.any_cons,List.any_cons,GP r f.1,QD t f.2]
theorem UP {A:ag} {s:Ζ} {x:V} {v:Α} (rx:YB x v) (fx:Vg x=true):∀ {xs:List V} {us:List Α},Yt xs us->xs.all Vg=true->∀ u∈us,SeqAt.EqAt A s u v (ji x u)
 | _,_,.nil,_=>λu hu=>by cases hu
 | y::xs,u::us,.cons r t,f=>λu' hu=>by
  rw [List.all_cons,fc] at f
  rcases Ν.mp hu with rfl | hu
  ·rw [GP r f.1];exact Yhc r rx f.1 fx
  ·exact UP rx fx t f.2 u' hu
def inV (x:V) (xs:List V):Bool:=xs.any λy=>jN y x
def xZ (K:Θ) (neg:Bool):R2:=λx y H Q=>∃ p xs,y = .ref p/\(au K H p xs\/aJ K H p xs)/\Vg x=true/\xs.all Vg=true/\Q (.bl (if neg then !inV x xs else inV x xs)) H
theorem YdR:bM X (dE .In) (xZ X.K false):=by
 intro pins s σ H x y v u Q I rx ry h;obtain ⟨p,xs,rfl,hq,fx,fs,q⟩:=h
 cases ry
 rcases hq with hq | hq
 ·obtain ⟨its,r,pl,hz⟩:=I.list hq
  refine SeqAt.in_listAt (ji x) pl.isList (λw hw=>UP rx fx r fs w (by simpa using hw)) ⟨.bl _,H,I,rfl,?_⟩;rw [show its.toArray.any (ji x)=its.any (ji x) by simp,QD r fs];exact q
 ·obtain ⟨its,r,pl,hz⟩:=I.tuple hq
  refine SeqAt.in_tupleAt (ji x) pl (λw hw=>UP rx fx r fs w (by simpa using hw)) ⟨.bl _,H,I,rfl,?_⟩;rw [show its.toArray.any (ji x)=its.any (ji x) by simp,QD r fs];exact q
inductive tL (K:Θ) (H:Hp) (p:Addr) (Q:Int->Prop):Prop
 | mk (ys:List V) (h:au K H p ys\/aJ K H p ys) (q:Q ys.length)
def tM (K:Θ):List V->Hp->VK->Prop:=λxs H Q=>k1 xs λx=>kR x λp=>tL K H p λn=>Q (.int n) H
theorem YM:XU X (.builtin "len") (tM X.K):=by
 intro pins s σ H xs us Q I r h;obtain ⟨x,rfl,h1⟩:=wL h;obtain ⟨p,rfl,ys,hq,q⟩:=Vm.mp h1;obtain ⟨u,rfl,rx⟩:=WE r
 cases rx
 have hn:=V1;rcases hq with hq | hq
 ·obtain ⟨its,r',pl,hz⟩:=I.list hq
  have hlen:=r'.length;exact Calls.call_len_list pl.isList (by simp only [ψ]<;>omega) ⟨.int ys.length,H,I.tok _,⟨s.toks+1,by rw [ψ,hlen]⟩,q⟩
 ·obtain ⟨its,r',pl,hz⟩:=I.tuple hq
  have hlen:=r'.length;exact len_tuple pl (by simp only [ψ]<;>omega) ⟨.int ys.length,H,I.tok _,⟨s.toks+1,by rw [ψ,hlen]⟩,q⟩
theorem W9:XU X (.builtin "len") (λxs H Q=>∃ z,xs=[.str z]/\z.length<=sizeLine/\Q (.int z.length) H):=by
 intro pins s σ H xs us Q I r h;obtain ⟨z,rfl,hz,q⟩:=h;obtain ⟨u,rfl,t,rfl⟩:=WE r;have hn:=V1;exact len_str (by omega) ⟨.int z.length,H,I.tok _,⟨_,rfl⟩,q⟩
theorem YaM:XU X (.type "list") (λxs H Q=>∃ p ys,xs=[.ref p]/\(au X.K H p ys\/aJ X.K H p ys)/\∀ l,H l=none->Q (.ref l) (upd H l (.lst ys))):=by
 intro pins s σ H xs us Q I r h;obtain ⟨p,ys,rfl,hq,q⟩:=h;obtain ⟨u,rfl,rx⟩:=WE r
 cases rx
 have fin:∀ (its:List Α),Yt ys its->ys.length<=sizeLine->∀ (h':Heap) (c':Nat),(∀ b o',s.heap.get? b=some o'->h'.get? b=some o') ->
   h'.get? s.heap.objs.size=some { cls := .type "list",dict:=none,data := .seq its.toArray c',slots:=#[] }->EP X pins σ Q (.ref s.heap.objs.size) { s with heap:=h' }:=λits r' hz h' c' kp e =>
  ⟨.ref s.heap.objs.size,_,I.laid (t':=s.toks) kp (Κ _) (show YN X.prog X.w _ h' _ (.lst ys) from ⟨hz,its,c',r',e⟩),rfl,q _ (I.hok.fresh (Κ _))⟩
 rcases hq with hq | hq
 ·obtain ⟨its,r',pl,hz⟩:=I.list hq
  have hlen:=r'.length;obtain ⟨o,ho,hc,n,hd⟩:=pl.isList;exact call_list_seq p (.inl rfl) ho hc hd (λh' c' kp e=>fin its r' hz h' c' kp e) (by simp only [ψ]<;>omega)
 ·obtain ⟨its,r',pl,hz⟩:=I.tuple hq
  have hlen:=r'.length;obtain ⟨o,ho,hc,n,hd⟩:=pl;exact call_list_seq p (.inr rfl) ho hc hd (λh' c' kp e=>fin its r' hz h' c' kp e) (by simp only [ψ]<;>omega)
theorem VZ:XU X (.type "tuple") (λxs H Q=>∃ p ys,xs=[.ref p]/\((au X.K H p ys/\∀ l,H l=none->Q (.ref l) (upd H l (.tup ys)))\/(aJ X.K H p ys/\Q (.ref p) H))):=by
 intro pins s σ H xs us Q I r h;obtain ⟨p,ys,rfl,h⟩:=h;obtain ⟨u,rfl,rx⟩:=WE r
 cases rx
 rcases h with ⟨hq,q⟩ | ⟨hq,q⟩
 ·obtain ⟨its,r',pl,hz⟩:=I.list hq
  have hlen:=r'.length;refine call_tuple_list pl.isList (λh' kp=>?_) (by simp only [ψ]<;>omega);have I1:Inv X pins σ H { s with heap:=h' }:=I.kept (t':=s.toks) kp;have I2:Inv X pins σ (upd H h'.objs.size (.tup ys)) { s with heap:=h'.push { cls := .type "tuple",data := .seq its.toArray } } :=
   I1.laid (t':=s.toks) (λb o e=>Ο _ e) (Κ _) (show YN X.prog X.w _ _ _ (.tup ys) from ⟨hz,its,r',IsTup.new _ _⟩)
  exact ⟨.ref h'.objs.size,_,I2,rfl,q _ (I1.hok.fresh (Κ _))⟩
 ·obtain ⟨its,r',pl,hz⟩:=I.tuple hq
  exact call_tuple_same pl ⟨.ref p,H,I,rfl,q⟩
def yd (K:Θ) (T:String) (x:V) (H:Hp):Prop:=match x with
 | .str _=>T="str"
 | .int _=>T="int"
 | .ref p=>(T="list"/\∃ xs,au K H p xs)\/(T="tuple"/\∃ o,K.lookup p=some o/\o.cls = .type "tuple"/\o.dict=none) \/
   (T="dict"/\((∃ kvs,H p=some (.dK kvs))\/∃ kvs,H p=some (.dT kvs)))\/(T="set"/\∃ S n,H p=some (.set S n))
 | _=>False
theorem GQ {pins:List (Addr×Obj)} {σ:St} {H:Hp} {s:Ζ} {T:String} {x:V} {v:Α} (I:Inv X pins σ H s) (r:YB x v) (ty:yd X.K T x H) :
  s.TypeIs v T/\∀ a,v = .ref a->∃ ob,s.heap.get? a=some ob/\ob.dict=none:=by
 cases x with
 | str z =>
  obtain ⟨t,rfl⟩:=r
  cases (show T="str" from ty)
  exact ⟨typeIs_str s z t,λ_ e=>nomatch e⟩
 | int i =>
  obtain ⟨t,rfl⟩:=r
  cases (show T="int" from ty)
  exact ⟨typeIs_int s i t,λ_ e=>nomatch e⟩
 | ref p =>
  cases r
  rcases ty with ⟨rfl,xs,hq⟩ | ⟨rfl,o,hk,hc,hd⟩ | ⟨rfl,hk⟩ | ⟨rfl,S,n,hk⟩
  ·obtain ⟨its,_,pl,_⟩:=I.list hq
   refine ⟨pl.isList.typeIs,λa e=>?_⟩
   cases e
   obtain ⟨o,n,e,c,hd,_⟩:=pl;exact ⟨o,e,hd⟩
  ·refine ⟨⟨o,I.bL p o hk,hc⟩,λa e=>?_⟩
   cases e
   exact ⟨o,I.bL _ o hk,hd⟩
  ·have z:∃ o,s.heap.get? p=some o/\o.ExactDict:=by
    rcases hk with ⟨kvs,hk⟩ | ⟨kvs,hk⟩
    ·obtain ⟨_,_,_,_,o,_,_,e,ex,_⟩:=I.hok p _ hk
     exact ⟨o,e,ex⟩
    ·obtain ⟨_,_,_,_,o,_,_,e,ex,_⟩:=I.hok p _ hk
     exact ⟨o,e,ex⟩
   obtain ⟨o,e,ex⟩:=z;refine ⟨⟨o,e,ex.1⟩,λa e2=>?_⟩
   cases e2
   exact ⟨o,e,ex.2.1⟩
  ·obtain ⟨o,_,_,_,e,ex,_⟩:=I.hok p _ hk
   refine ⟨⟨o,e,ex.1⟩,λa e2=>?_⟩
   cases e2
   exact ⟨o,e,ex.2.1⟩
 | _=>exact b9 ty
def tO (K:Θ) (T:String) (r:V->List V->Hp->VK->Prop) (to:TE):TE:=λσ H Q=>to σ H λx H1=>yd K T x H1/\r x [] H1 Q
def yg (K:Θ) (T:String) (r:V->List V->Hp->VK->Prop) (to:TE) (t:TA):TE:=λσ H Q=>to σ H λx H1=>yd K T x H1/\t σ H1 λxs H2=>r x xs H2 Q
variable {o e:Expr} {es:List Expr} {to:TE} {t:TA} {name:Str} {apos cpos:Pos} {T id:String} {r:V->List V->Hp->VK->Prop}
theorem Yhd (pa:PlainAttrs T) (slot:Slot T name id) (hty:typeOf (.builtin id)=pure (.type "method_descriptor")) (hm:uR X id r) (ho:PE X o to)
  (hbase:gu o name X.env (eval o X.env)=eval o X.env) (hline:(apos.endLine==cpos.line)=true):PE X (.Call (.Attribute o name apos) [] [] cpos) (tO X.K T r to):=by
 intro pins s σ H Q I h;refine wpAny_Call_method0_late hbase hline (aA (ho pins s σ H _ I h) λv s1 ⟨x,H1,I1,r1,ty,q1⟩=>?_);obtain ⟨h1,h2⟩:=GQ I1 r1 ty;exact ⟨T,id,pa,slot,hty,h1,h2,Calls.callWith_builtin rfl (PySem.evalArgs_none (hm pins s1 σ H1 x [] v [] Q I1 r1 .nil q1))⟩
theorem VF (pa:PlainAttrs T) (slot:Slot T name id) (hty:typeOf (.builtin id)=pure (.type "method_descriptor")) (hm:uR X id r) (ho:PE X o to) (ha:PA X (e::es) t)
  (hbase:gu o name X.env (eval o X.env)=eval o X.env:=by rfl)
  (hfew:((b8 cpos (η (e::es) X.env)).all (λx => !x.1)&&(js cpos (il [] X.env)).all (λx=>x.1.isSome)
   && decide ((e::es).length+([]:List Keyword).length+(if ([]:List Keyword).isEmpty then 0 else 1)<30))=true:=by rfl)
  (hline:(apos.endLine==cpos.line)=true:=by rfl) (hs:η (e::es) X.env=(false,eval e X.env)::η es X.env:=by rfl) (hplain:(b8 cpos (η es X.env)).any (·.1)=false:=by rfl) :
  PE X (.Call (.Attribute o name apos) (e::es) [] cpos) (yg X.K T r to t):=by
 intro pins s σ H Q I h;refine wpAny_Call_method_late hbase hfew hline rfl (aA (ho pins s σ H _ I h) λv s1 ⟨x,H1,I1,r1,ty,q1⟩=>?_);obtain ⟨h1,h2⟩:=GQ I1 r1 ty;refine ⟨T,id,pa,slot,hty,h1,h2,?_⟩;have hA:=ha cpos pins s1 σ H1 _ I1 q1;rw [hs] at hA ⊢
 refine Calls.callWith_builtin (by show (false||(b8 cpos (η es X.env)).any (·.1))=false;rw [hplain]<;>rfl) (Calls.evalArgs_plain ?_);exact aA hA λus s2 ⟨vs,H2,I2,r2,q2⟩=>hm pins s2 σ H2 x vs v us Q I2 r1 r2 q2
/- xs.append(e),list.index on a module's tuple .. are uR facts of 06m -/
end
def GR (X:Cx) (id:String) (r:V->List V->Hp->VK->Prop):Prop :=
 ∀ (pins:List (Addr×Obj)) (s:Ζ) (σ:St) (H:Hp) (x:V) (xs:List V) (v:Α) (us:List Α) (Q:VK),Inv X pins σ H s->YB x v->Yt xs us->r x xs H Q ->
  Χ (Ω X.prog X.w) X.A (call (.builtin id) (v::us)) (EP X pins σ Q) X.xe s
theorem Yt.one:∀ {x:V} {us:List Α},Yt [x] us->∃ u,us=[u]/\YB x u
 | _,_,.cons r .nil=>⟨_,rfl,r⟩
theorem Yt.zero:∀ {us:List Α},Yt [] us->us=[]
 | _,.nil=>rfl
theorem Yt.reverse {xs:List V} {us:List Α} (h:Yt xs us):Yt xs.reverse us.reverse:=by
 induction h with
 | nil=>exact .nil
 | cons r t ih=>rw [List.reverse_cons,List.reverse_cons];exact Yt.append ih (.cons r .nil)
section
variable {X:Cx} {pins:List (Addr×Obj)} {σ:St} {H:Hp} {s:Ζ} {l b:Addr} {xs ys zs:List V}
theorem Inv.yh {its its':List Α} {n:Nat} {f:Array Α->Array Α} {t':Nat} (I:Inv X pins σ H s) (hH:H l=some (.lst xs))
  (e:s.heap.get? l=some { cls := .type "list",data := .seq its.toArray n }) (hf:f its.toArray=its'.toArray) (hv:Yt ys its') (hz:ys.length<=sizeLine) :
  Inv X pins σ (upd H l (.lst ys)) { s with heap:=s.heap.update l (Obj.mapSeq f),toks:=t' }:=by
 have q:=PySem.IsL.update e f;rw [hf] at q
 refine I.write (x:=l) (e:=l) (by rw [hH];exact trivial) (.inl rfl) (λb' u hb hu=>(Heap.get?_update_other s.heap (Obj.mapSeq f) (ai hb)).trans hu) ⟨_,q⟩ ?_;exact ⟨hz,its',_,hv,q⟩
theorem Inv.tQ {its:List Α} {t':Nat} (I:Inv X pins σ H s) (hv:Yt ys its) (hz:ys.length<=sizeLine) :
  Inv X pins σ (upd H s.heap.objs.size (.lst ys)) { s with heap:=s.heap.push { cls := .type "list",data := .seq its.toArray },toks:=t' } :=
 I.laid (λ_ _ q=>Ο _ q) (Κ _) ⟨hz,its,0,hv,af _ rfl⟩
theorem Inv.fresh (I:Inv X pins σ H s):H s.heap.objs.size=none:=I.hok.fresh (Κ _)
theorem Inv.oH (I:Inv X pins σ H s) (hH:H l=some (.lst xs)):xs.length<=sizeLine/\∃ (its:List Α) (n:Nat),Yt xs its/\xs.length=its.length/\s.heap.get? l=some { cls := .type "list",data := .seq its.toArray n }:=by
 obtain ⟨z,its,n,r,e⟩:=I.hok l _ hH;exact ⟨z,its,n,r,r.length,e⟩
end
section
variable {X:Cx}
inductive Rp (H:Hp) (l:Addr) (Q:List V->Prop):Prop
 | mk (xs:List V) (h:H l=some (.lst xs)) (hz:xs.length<sizeLine) (q:Q xs)
def QE:V->List V->Hp->VK->Prop:=λx vs H Q=>kR x λl=>k1 vs λy=>Rp H l λxs=>Q .non (upd H l (.lst (xs++[y])))
theorem XJ:GR X "list.append" QE:=by
 intro pins s σ H x vs v us Q I rx rv h;obtain ⟨l,rfl,h1⟩:=Vm.mp h;obtain ⟨y,rfl,xs,hH,hz,q⟩:=wL h1
 cases rx
 obtain ⟨u,rfl,ru⟩:=rv.one;obtain ⟨z,its,n,r,hl,e⟩:=I.oH hH;refine call_meets F.slot_list_append ⟨_,e,rfl⟩ F.entry_list_append (F.args_list_append_2 _ _) (PySem.list_append l its.toArray n u (by rw [ψ];omega)) ⟨e,?_⟩;refine ⟨.non,_,I.yh (its':=its++[u]) hH e (by simp) (r.append (.cons ru .nil)) ?_,rfl,q⟩;rw [Μ,aE];omega
def UQ:V->List V->Hp->VK->Prop:=λx vs H Q=>∃ l xs,x = .ref l/\vs=[]/\H l=some (.lst xs)/\Q .non (upd H l (.lst xs.reverse))
theorem Yc0:GR X "list.reverse" UQ:=by
 intro pins s σ H x vs v us Q I rx rv h;obtain ⟨l,xs,rfl,rfl,hH,q⟩:=h
 cases rx
 have hus:=rv.zero;subst hus;obtain ⟨z,its,n,r,hl,e⟩:=I.oH hH;refine call_meets F.slot_list_reverse ⟨_,e,rfl⟩ F.entry_list_reverse (F.args_list_reverse_1 _) (AutoSeq1.list_reverse_list_0 l its.toArray n (by rw [ψ];omega)) ⟨e,?_⟩;refine ⟨.non,_,I.yh (its':=its.reverse) hH e (by simp) r.reverse ?_,rfl,q⟩;rw [b7];omega
inductive Rq (H:Hp) (l b:Addr) (Q:List V->List V->Prop):Prop
 | mk (xs:List V) (h:H l=some (.lst xs)) (zs:List V) (h':H b=some (.lst zs)) (hz:xs.length+zs.length<=sizeLine) (q:Q xs zs)
def tU:R2:=λx y H Q=>kR x λl=>kR y λb=>Rq H l b λxs zs=>∀ p,H p=none->Q (.ref p) (upd H p (.lst (xs++zs)))
theorem V4:bM X (di .Add) tU:=by
 intro pins s σ H x y v u Q I rx ry h;obtain ⟨l,rfl,h1⟩:=Vm.mp h;obtain ⟨b,rfl,xs,hH,zs,hB,hz,q⟩:=Vm.mp h1
 cases rx
 cases ry
 obtain ⟨z,its,n,r,hl,e⟩:=I.oH hH;obtain ⟨z2,its2,n2,r2,hl2,e2⟩:=I.oH hB;refine PySem.P.add_list e e2 ?_ (by rw [ψ,ψ];omega);have ea:its.toArray++its2.toArray=(its++its2).toArray:=by simp
 rw [ea];exact ⟨.ref _,_,I.tQ (t':=s.toks) (r.append r2) (by rw [Μ];omega),rfl,q _ I.fresh⟩
end
end L2
namespace GX
open PySem PySem.W PySem.Calls PyProof.Rows
theorem Qf {P:Params} {h:Heap}:∀ (ns:List Int) (vs:List Α),WellAll P h vs (ns.map WData.int)->IntsAre vs ns:=by
 intro ns
 induction ns with
 | nil =>
  intro vs w;rw [fb] at w
  cases w
  exact .nil
 | cons n ns ih =>
  intro vs w;rw [χ] at w
  cases w with
  | cons a b =>
   cases a
   exact .cons _ _ (ih _ b)
theorem YdT {l:OpenLaw} {n:Nat} (hn:l.most=some n) {P:Params} {h:Heap} {args:List WData} {vals:List Α}
  (hpre:l.row.toRowW.claim.pre args=true) (hwl:WellAll P h vals args) :
  ∃ a vs ns,vals=[ae a]/\args=[WData.list (ns.map WData.int)]/\h.get? a=some { cls := .type "list",data := .seq vs.toArray }/\IntsAre vs ns/\ns.length<=n:=by
 have hsh:WShape.hasAll [] args [.list .int]=true:=(pre_splitW hpre).1;have hc:l.pre.holds [] { args:=args }=true:=(pre_splitW hpre).2;obtain ⟨d,r,rfl,h1,h2⟩:=hasAllW_cons hsh;obtain rfl:=hasAllW_nil h2;obtain ⟨xs,rfl,h3⟩:=hasW_list h1;obtain ⟨ns,rfl⟩:=items_int h3;have hlen:ns.length<=n:=by
  unfold OpenLaw.pre at hc;have h4:(WTm.not (.lt (.lit (.int (n:Int))) (.len (.arg 0)))).holds [] { args:=[.list (ns.map .int)] }=true:=by
   have h4:=(holds_andW hc).1;rw [hn] at h4
   exact h4
  have h5:=condW_of h4 (w_not (w_lt w_lit (w_len_list (w_arg rfl))));rw [Β] at h5
  refine Nat.le_of_not_lt λq=>?_
  have q':(n:Int)<((ns.length:Nat):Int):=by omega
  first
   | (rw [decide_eq_true q'] at h5;exact absurd h5 (by decide))
   | (simp at h5;omega)
 cases hwl with
 | cons w1 w2 =>
  cases w2
  cases w1 with
  | list ho hall=>exact ⟨_,_,ns,rfl,rfl,ho,Qf ns _ hall,hlen⟩
theorem YdU (l:OpenLaw) (args:List WData):l.row.toRowW.claim.post args (.bool true) args=true :=
 postW_of (r:=l.row.toRowW) (X:=(true==true))
  (show WShape.has [] (.bool true) .bool=true by first | rfl | decide | simp [WShape.has,WShape.arms,WShape.armsAll])
  (show (WTm.eq .res (.lit (.bool true))).value [] { args:=args,res:=some (.bool true),after:=args }=some (.bool (true==true)) from w_eq_bool (w_res rfl) w_lit) rfl
theorem mH {l:OpenLaw} {n:Nat} {q:δ} {loose:List Str} {XP:(Str->Option Α)->Heap->Prop} {YP:ι->Heap->Prop} {d:DefRec}
  (hn:l.most=some n) (hdf:d.params.defaults=[])
  (call:∀ (w:ι) (s₀ s₁:Ζ) (mg mb:Str->Option Α) (fa:Addr) (o:Obj) (pm cd doc:Α) (a:Addr) (vs:List Α) (ns:List Int),
   Ground q loose [] XP w s₀ mg mb s₁.heap->YP w s₁.heap ->
   s₁.heap.get? fa=some o->o.data = .func (docDef d.name d.params d.body d.scope pm cd doc)->s₁.heap.CodeRec cd d.name->mg d.name=some (.ref fa) ->
   s₁.heap.get? a=some { cls := .type "list",data := .seq vs.toArray }->IntsAre vs ns->ns.length<=n->s₁.gens=#[] ->
   gv (Ω l.prog w) callerA (.call (.ref fa) ⟨[.ref a],[]⟩) (λr s'=>r = .ok (.ret (.bool true))/\OldK s₁.heap s'.heap/\s'.os=s₁.os/\iA s'.gens) s₁) :
  WalkO q loose XP YP l.row.toRowW d [] (λf vs=>PySem.call f vs):=by
 intro w s₀ s₁ mg mb G Y fa o pm cd doc dV kV ho hd hcd hD hmg hg args vals as hpre hlay hrd hwl hlo;obtain rfl:dV = .none:=Dflts.none hD hdf;obtain rfl:kV = .none:=Dflts.noKw hD;obtain ⟨a,vs,ns,rfl,rfl,hobj,hints,hlen⟩:=YdT hn hpre hwl;refine enter_call (jI (call w s₀ s₁ mg mb fa o pm cd doc a vs ns G Y ho (fd_plain hd) hcd hmg hobj hints hlen hg) λr s' hq=>?_);obtain ⟨rfl,h2,h3,h4⟩:=hq;exact ⟨.inl ⟨.bool true,.bool true,[],rfl,λ_=>rfl,.bool true,YdU l _,λ_=>⟨List.Pairwise.nil,λ_ hm=>(nomatch hm)⟩⟩,h2,h3,h4⟩
section
variable {prog:δ} {w:ι} {A:ag} {E:Α->Ζ->Prop} {s:Ζ} {K:Frag}
def ledger (h:Heap) (L d:Addr):List (Addr×Obj):=(ζ h.objs.size).filterMap λa=>if a=L\/a=d then none else (h.get? a).map λo=>(a,o)
end
end GX
namespace L2
open PySem PySem.Spec PyProof.Rows
theorem GZ:∀ {vs:List Α} {ns:List Int},IntsAre vs ns->Yt (ns.map V.int) vs
 | _,_,.nil => .nil
 | _,_,.cons n t h => .cons ⟨t,rfl⟩ (GZ h)
def Yz (s:Stmt) (j:Nat):Stmt:=match s with
 | .ClassDef _ _ _ body _ _ _ _ _ _ _=>body.getD j (.Pass ⟨0,0,0,0⟩)
 | _ => .Pass ⟨0,0,0,0⟩
def YV (s:Stmt):Arguments:=match s with
 | .FunctionDef _ a _ _ _ _ _ _ _ _=>a
 | _=>{ posonlyargs:=[],args:=[],vararg:=none,kwonlyargs:=[],kw_defaults:=[],kwarg:=none,defaults:=[] }
def YI (s:Stmt):List Stmt:=match s with
 | .FunctionDef _ _ b _ _ _ _ _ _ _=>b
 | _=>[]
def Yj (s:Stmt):Scope:=match s with
 | .FunctionDef _ _ _ _ _ _ sc _ _ _=>sc
 | _=>{ kind := .function,names:=[],isGenerator:=false,isCoroutine:=false }
abbrev cL:fC:=λ_ _ _ _ _ _=>False
abbrev E0:XK:=λ_ _ _=>False
theorem Vh {X:Cx}:W7 cL X E0:=λ_ _ _ _ _ _ _ h=>h.elim
structure fO (K:Θ) (x qual:Str) (st:Stmt) (f:Addr) (fd:bt):Prop where
 ex:∃ (oc:Α) (od:Option Addr) (kV doc pm:Α) (an:Option Addr) (cdv ct:Α) (osl:Array (Option Α)),
  fd=c8 x qual (YV st) (YI st) (Yj st) .none kV doc pm an cdv ct/\K.lookup f=some ⟨oc,od,.func fd,osl⟩/\ie K cdv qual=true
 kp:eQ K (.ref f)=true
section
variable {P:δ} {w:ι} {K:Θ} {mg:Str->Option Α} {base:Heap}
theorem fO.ok {x qual:Str} {st:Stmt} {f:Addr} {fd:bt} {N ps:List Str} {k:Nat} {sp:Sp} (F:fO K x qual st f fd) (S:ak N ps (Yj st)) (len:∀ vs H Q E,sp vs H Q E->vs.length=ps.length)
  (hbody:∀ (cdv:Α) (A:ag) (outer:List Env) (s:Ζ) (H:Hp) (vs:List V) (Q:VK) (E:XK),aP k (A.deeper (iF qual (Yj st) s.heap.objs.size f cdv))->sp vs H Q E ->
   ∃ t,eN (W8 cL P w K mg base N qual (Yj st) f cdv A outer s H E).iC (YI st) t/\t { nx:=λ_ H'=>Q .non H',rt:=Q } (XN N vs) H):bG P w K mg base cL (k+1) f fd ps sp:=by
 obtain ⟨oc,od,kV,doc,pm,an,cdv,ct,osl,rfl,lk,hcd⟩:=F.ex;refine GC lk hcd S len λA outer s H vs Q E hr hsp=>?_
 obtain ⟨t,h,q⟩:=hbody cdv A outer s H vs Q E hr hsp;exact ⟨t,h.iC,q⟩
theorem fO.binds {x qual:Str} {st:Stmt} {f:Addr} {fd:bt} {ps:List Str} (F:fO K x qual st f fd)
  (h:∀ (kV doc pm:Α) (an:Option Addr) (cdv ct:Α) (us:List Α),us.length=ps.length->fN (c8 x qual (YV st) (YI st) (Yj st) .none kV doc pm an cdv ct) ⟨us,[]⟩=pure (ps.zip us)):Xc K fd ps []:=by
 obtain ⟨oc,od,kV,doc,pm,an,cdv,ct,osl,rfl,lk,hcd⟩:=F.ex;exact .all (h kV doc pm an cdv ct)
theorem Vt {x qual:Str} {st:Stmt} {f:Addr} {oc:Α} {od an:Option Addr} {osl:Array (Option Α)} {kV doc pm cdv ct:Α} (l:K.lookup f=some ⟨oc,od,.func (c8 x qual (YV st) (YI st) (Yj st) .none kV doc pm an cdv ct),osl⟩)
  (c:ie K cdv qual=true) (k:eQ K (.ref f)=true):fO K x qual st f (c8 x qual (YV st) (YI st) (Yj st) .none kV doc pm an cdv ct):=⟨⟨oc,od,kV,doc,pm,an,cdv,ct,osl,rfl,l,c⟩,k⟩
end
theorem G4 {A:ag} {k:Nat} (hr:aP k A):A.units+1<cLine:=gV (Nat.add_le_add_left (by decide:1<=64) _) hr.units
section
variable {X:Cx}
theorem pv (i:Nat) {x:Str} {pos:Pos} (hN:X.N[i]?=some x:=by rfl) (hv:pX X.env.scope x:=by first | exact .inl rfl | exact .inr (.inl rfl) | exact .inr (.inr rfl)) (hd:(x==("__debug__":Str))=false:=by decide)
  (hcd:(x==("__classdict__":Str))=false:=by decide):PE X (.Name x pos) (UK i):=FN hN hv hd hcd
end
theorem Xu {A B:Prop} (h:B):if false=true then A else B:=by
 rw [if_neg τ];exact h
theorem UR {A B:Prop} (h:A):if true=true then A else B:=by
 rw [if_pos rfl];exact h
theorem Xy {c A B:Prop} [Decidable c] (h1:c->A) (h2:¬ c->B):if c then A else B:=by
 by_cases h:c
 ·rw [if_pos h]
  exact h1 h
 ·rw [if_neg h]
  exact h2 h
def Yk (H H':Hp):Prop:=∀ b o,H b=some o->H' b=some o
theorem Yk.refl (H:Hp):Yk H H:=λ_ _ h=>h
theorem Yk.trans {H H1 H2:Hp} (a:Yk H H1) (b:Yk H1 H2):Yk H H2:=λc o h=>b c o (a c o h)
theorem Yk.free {H H':Hp} (e:Yk H H') {l:Addr} (h:H' l=Option.none):H l=Option.none:=by
 cases q:H l with
 | none=>rfl
 | some o =>
  rw [e l o q] at h
  cases h
theorem Yk.seq {K:Θ} {H H':Hp} {a:Addr} {xs:List V} (e:Yk H H') (h:au K H a xs):au K H' a xs:=by
 rcases h with (h | ⟨o,h⟩) | h
 ·exact .inl (.inl (e _ _ h))
 ·exact .inl (.inr ⟨o,e _ _ h⟩)
 ·exact .inr h
section
variable {κ:Type} [DecidableEq κ]
def WP (kvs:List (κ×V)) (k:κ):Option V:=(kvs.find? λkv=>decide (kv.1=k)).map (·.2)
def putK (kvs:List (κ×V)) (k:κ) (v:V):List (κ×V) :=
 if (kvs.any λkv=>decide (kv.1=k))=true then kvs.map (λkv=>if kv.1=k then (kv.1,v) else kv) else kvs++[(k,v)]
theorem G5 {p:κ×V} {r:List (κ×V)} {k:κ} (e:p.1=k):WP (p::r) k=some p.2:=by simp [WP,a7,e]
theorem G6 {p:κ×V} {r:List (κ×V)} {k:κ} (e:¬ p.1=k):WP (p::r) k=WP r k:=by simp [WP,a7,e]
theorem KV.val {kvs:List (κ×V)} {vs:List (κ×Α)} (r:KV kvs vs) (k:κ):Wd (WP kvs k) (valueAt vs k):=by
 unfold KV at r
 induction r with
 | nil=>exact d3
 | @cons p q ps qs h t ih =>
  obtain ⟨h1,h2⟩:=h;by_cases e:p.1=k
  ·have e':q.1=k:=h1.symm.trans e
   have b:valueAt (q::qs) k=some q.2:=by simp [valueAt,a7,e']
   rw [G5 e,b];exact h2
  ·have e':¬ q.1=k:=λz=>e (h1.trans z)
   have b:valueAt (q::qs) k=valueAt qs k:=by simp [valueAt,a7,e']
   rw [G6 e,b];exact ih
end
theorem uV {P:δ} {w:ι} {k:Key} {u:Α} (r:YB (kV k) u):(Y1 P w).is k u=true:=by
 cases k with
 | inl i=>obtain ⟨t,e⟩:=(show ∃ t,u=km i t from r);subst e;exact SQ P w i t
 | inr x=>obtain ⟨t,e⟩:=(show ∃ t,u=iE x t from r);subst e;exact UH P w x t
theorem G7 {P:δ} {w:ι}:∀ {ks:List Key} {us:List Α},Yt (ks.map kV) us->ItemsAre (Y1 P w) ks us
 | [],_,r=>by rw [fb] at r;cases r;exact .nil
 | k::ks,_,r=>by
  rw [χ] at r
  cases r with
  | cons h t=>exact .cons (uV h) (G7 t)
abbrev KT (H:Hp):List (List Key×V)->List (List Key×Addr×Α)->Prop:=Paired λp q=>p.1=q.1/\H q.2.1=some (.tup (p.1.map kV))/\YB p.2 q.2.2
theorem KT.val {H:Hp} {kvs:List (List Key×V)} {xs:List (List Key×Addr×Α)} (r:KT H kvs xs) (k:List Key):Wd (WP kvs k) ((atKey xs k).map (·.2)):=by
 induction r with
 | nil=>exact d3
 | @cons p q ps qs h t ih =>
  obtain ⟨h1,_,h2⟩:=h;by_cases e:p.1=k
  ·have e':q.1=k:=h1.symm.trans e
   have b:atKey (q::qs) k=some q.2:=by simp [atKey,a7,e']
   rw [G5 e,b];exact h2
  ·have e':¬ q.1=k:=λz=>e (h1.trans z)
   have b:atKey (q::qs) k=atKey qs k:=by simp [atKey,a7,e']
   rw [G6 e,b];exact ih
section
variable {P:δ} {w:ι} {H:Hp} {h:Heap} {a:Addr}
theorem G8 {u:HO} (ok:bB P w H h) (e:Rd H a u):YN P w H h a u:=e.ok ok
theorem yj {kvs:List (Key×V)} (ok:bB P w H h) (e:Rd H a (.dK kvs)):kvs.length<=sizeLine/\(a==ft)=false/\∃ vs,KV kvs vs/\h.DictOf (Y1 P w) a vs :=
 show YN P w H h a (.dK kvs) from G8 ok e
theorem Uu {kvs:List (Key×V)} (ok:bB P w H h) (e:H a=some (.dK kvs)):kvs.length<=sizeLine/\(a==ft)=false/\∃ vs,KV kvs vs/\h.DictOf (Y1 P w) a vs:=yj ok (.inl e)
theorem G9 {ks:List Key} (ok:bB P w H h) (e:H a=some (.tup (ks.map kV))):(tupleKind (Y1 P w)).is h ks a:=by
 obtain ⟨_,its,r,o,h1,h2,n,h3⟩:=(show YN P w H h a (.tup (ks.map kV)) from ok a _ e);exact ⟨o,its.toArray,n,h1,h2,h3,by simpa using G7 r⟩
theorem Hf {kvs:List (List Key×V)} (ok:bB P w H h) (e:Rd H a (.dT kvs)):kvs.length<=sizeLine/\(a==ft)=false /\
  ∃ xs,KT H kvs xs/\h.DictOfH (tupleKind (Y1 P w)) a xs:=by
 obtain ⟨z,y,xs,r,o,es,ep,h1,h2,h3,h4,h5⟩:=(show YN P w H h a (.dT kvs) from G8 ok e);refine ⟨z,y,xs,r,o,es,ep,h1,h2,h3,h4,λx hx=>?_,h5⟩;have all:∀ {l:List (List Key×V)} {m:List (List Key×Addr×Α)},KT H l m->∀ x∈m,(tupleKind (Y1 P w)).is h x.1 x.2.1:=by
  intro l m q
  induction q with
  | nil=>intro x hx;exact nomatch hx
  | @cons p q ps qs hq t ih =>
   intro x hx;rcases Ν.mp hx with e | hx
   ·subst e
    exact G9 ok (by rw [<- hq.1];exact hq.2.1)
   ·exact ih x hx
 exact all r x hx
end
def V5 (H:Hp) (a:Addr) (y:V) (r:Option V):Prop :=
 (∃ kvs k,Rd H a (.dK kvs)/\y=kV k/\r=WP kvs k)\/∃ kvs k b,Rd H a (.dT kvs)/\y = .ref b/\H b=some (.tup (k.map kV))/\r=WP kvs k
def Rr (H:Hp) (a:Addr) (y v:V) (H':Hp):Prop :=
 (∃ kvs k,H a=some (.dK kvs)/\y=kV k/\kvs.length<sizeLine/\H'=upd H a (.dK (putK kvs k v))) \/
 ∃ kvs k b,H a=some (.dT kvs)/\y = .ref b/\H b=some (.tup (k.map kV))/\kvs.length<sizeLine/\H'=upd H a (.dT (putK kvs k v))
theorem V5.k {H:Hp} {a:Addr} {kvs:List (Key×V)} {k:Key} (e:H a=some (.dK kvs)):V5 H a (kV k) (WP kvs k) := .inl ⟨kvs,k,.inl e,rfl,rfl⟩
section
variable {X:Cx} {pins:List (Addr×Obj)} {σ:St} {H:Hp} {s:Ζ} {a:Addr} {y v:V} {u r:Α} {o:Option V} {A:ag} {E:Α->Ζ->Prop}
theorem Inv.big (I:Inv X pins σ H s):ft<s.heap.objs.size:=by
 have h:az<s.heap.objs.size:=(I.mod.glob.keeps I.bk).lt;exact Nat.lt_trans (by decide) h
theorem YdW {Q:Α->Ζ->Prop} (hu:A.units+1<ia) (I:Inv X pins σ H s) (g:V5 H a y (some v)) (ry:YB y u) (h:∀ w' s',Inv X pins σ H s'->YB v w'->Q w' s') :
  Χ (Ω X.prog X.w) A (fq (.ref a) u) Q E s:=by
 rcases g with ⟨kvs,k,e,ey,l⟩ | ⟨kvs,k,b,e,ey,eb,l⟩
 ·subst ey
  obtain ⟨z,hd,vs,rel,dd⟩:=yj I.hok e;obtain ⟨w',hw,gC⟩:=Wd.some_of (v:=v) (o:=valueAt vs k) (by rw [l];exact rel.val k);exact wpAny_getItem_of (uV ry) dd.mapOf hw (h w' _ (I.tok _) gC)
 ·subst ey
  cases (show u=ae b from ry)
  obtain ⟨z,hd,xs,rel,dd⟩:=Hf I.hok e;obtain ⟨w',hw,gC⟩:=Wd.some_of (v:=v) (o:=(atKey xs k).map (·.2)) (by rw [l];exact rel.val k);obtain ⟨p,hp,hp2⟩:=ε.mp hw;refine wpAny_getItem_heap (tupleKind_room_in1 hu) (G9 I.hok eb) dd hp ?_;rw [hp2];exact h w' _ (I.tok _) gC
theorem Hg {h':Heap} {t':Nat} {ob:HO} (I:Inv X pins σ H s) (mu:pW (H a)) (hs:bP a s.heap h') (he:∃ q,h'.get? a=some q) (new:YN X.prog X.w (upd H a ob) h' a ob) :
  Inv X pins σ (upd H a ob) { s with heap:=h',toks:=t' } :=
 I.write (x:=a) (e:=a) mu (.inl rfl) (λb q hb z=>(hs.2 b hb).trans z) he new
end
def tV (i:Expr):Prop:=∀ ov iv,subscripted i false ov iv=operate [ov,iv] (fq ov iv)
theorem Hh {prog:δ} {w:ι} {A:ag} {E:Α->Ζ->Prop} {s:Ζ} {env:Env} {value slice:Expr} {pos:Pos} {T id:String} {Q:Α->Ζ->Prop}
  (hl:typeLookup (.type T) "__getitem__"=pure (some (.builtin id))) (hs:tV slice)
  (h:Χ (Ω prog w) A (eval value env) (λo s₁=>Χ (Ω prog w) A (eval slice env) (λi s₂=>s₂.TypeIs o T/\Χ (Ω prog w) A (fq o i) Q E s₂) E s₁) E s) :
  Χ (Ω prog w) A (eval (.Subscript value slice pos) env) Q E s:=by
 refine Subscript_ (a5 h (λo s₁ h₁=>a5 h₁ (λi s₂ h₂=>?_) λ_ _ x=>x) λ_ _ x=>x);obtain ⟨hT,h₂⟩:=h₂;unfold subscriptTail;refine Ι ?_;rw [getitemInPython_of_ne hT.not_modules];refine Ι (iN hT hl ?_);have fin:Χ (Ω prog w) A (subscripted slice false o i) (λr s₃=>Χ (Ω prog w) A (letTemporaryGo value o r >>= λ_=>pure r) Q E s₃) E s₂:=by
  rw [hs o i];exact wpAny_operating (a5 h₂ (λr s₃ h₃=>Ι (wpAny_letTemporaryGo (Ρ h₃))) λ_ _ x=>x)
 first
  | exact Ρ (Ι fin)
  | exact Ι (Ρ (Ι fin))
  | exact Ι fin
theorem YbE {X:Cx} {pins:List (Addr×Obj)} {σ:St} {H:Hp} {s:Ζ} {a:Addr} {y:V} {o:Option V} (I:Inv X pins σ H s) (g:V5 H a y o):s.TypeIs (.ref a) "dict":=by
 rcases g with ⟨kvs,k,e,_,_⟩ | ⟨kvs,k,b,e,_,_,_⟩
 ·obtain ⟨_,_,vs,_,dd⟩:=yj I.hok e
  exact dd.typeIs
 ·obtain ⟨_,_,xs,_,dd⟩:=Hf I.hok e
  exact dd.typeIs
def yq (td ty:TE):TE:=λσ H Q=>td σ H λx H1=>ty σ H1 λy H2=>∃ a v,x = .ref a/\V5 H2 a y (some v)/\Q v H2
def Hi (td ty tv:TE):TS:=λD σ H=>tv σ H λv H1=>td σ H1 λx H2=>ty σ H2 λy H3=>∃ a H4,x = .ref a/\Rr H3 a y v H4/\D.nx σ H4
section
variable {X:Cx} {o i e value:Expr} {pos pos' tpos:Pos} {td ty tv:TE}
theorem Ygq (hu:X.A.units+1<ia) (ho:PE X o td) (hi:PE X i ty) (hs:tV i):PE X (.Subscript o i pos) (yq td ty):=by
 intro pins s σ H Q I h;refine Hh F.slot_dict_getitem.lookup hs (aA (ho pins s σ H _ I h) λu s1 ⟨x,H1,I1,rx,q1⟩=>aA (hi pins s1 σ H1 _ I1 q1) λiv s2 ⟨y,H2,I2,ry,a,v,ex,g,q2⟩=>?_);subst ex;obtain rfl:u=ae a:=rx;exact ⟨YbE I2 g,YdW hu I2 g ry λw' s3 I3 gC=>⟨v,H2,I3,gC,q2⟩⟩
end
def Hj:TE:=λ_ H Q=>∀ p,H p=none->Q (.ref p) (upd H p (.dT []))
structure M2 (X:Cx) (o:Expr) (m:Str) (apos:Pos) (e f:Expr) (cpos:Pos):Prop where
 base:gu o m X.env (eval o X.env)=eval o X.env
 few:((b8 cpos (η [e,f] X.env)).all (λx => !x.1)&&(js cpos (il [] X.env)).all (λx=>x.1.isSome)
  && decide (([e,f]:List Expr).length+([]:List Keyword).length+(if ([]:List Keyword).isEmpty then 0 else 1)<30))=true
 line:(apos.endLine==cpos.line)=true
 trees:b8 cpos (η [e,f] X.env)=[(false,eval e X.env),(false,eval f X.env)]
theorem Va (env:Env):∀ (names:List (Str×gi)) (cs:List (Str×Addr)),(∀ x,(x,ρ)∈names->∃ c,env.cells.lookup x=some c) ->
  ∃ cl,(forIn names cs λ(p:Str×gi) (cs:List (Str×Addr))=>(if (p.2==ρ)=true then (do let c <- cellOf env p.1;pure (dq ((p.1,c)::cs))) else pure (dq cs):Sem (ForInStep (List (Str×Addr)))))=pure cl /\
   (∀ x c,cl.lookup x=some c->env.cells.lookup x=some c\/cs.lookup x=some c)/\(∀ x,(x,ρ)∈names->∃ c,cl.lookup x=some c)/\(∀ x c,cs.lookup x=some c->∃ d,cl.lookup x=some d)
 | [],cs,_=>⟨cs,by simp,λ_ _ h => .inr h,(λ_ h=>nomatch h),λx c h=>⟨c,h⟩⟩
 | (n,k)::r,cs,h=>by
  by_cases hk:k=ρ
  ·subst hk
   obtain ⟨c,hc⟩:=h n (g7 ..);obtain ⟨cl,e,a,b,d⟩:=Va env r ((n,c)::cs) (λx hx=>h x (bE _ hx));have hcell:cellOf env n=pure c:=by unfold cellOf;rw [hc]
   refine ⟨cl,?_,λx c' hx=>?_,λx hx=>?_,λx c' hx=>?_⟩
   ·rw [List.forIn_cons]
    simp only [beq_self_eq_true,if_true,hcell,pure_bind];exact e
   ·rcases a x c' hx with q | q
    ·exact .inl q
    ·rw [Υ] at q
     by_cases hxn:(x==n)=true
     ·rw [hxn] at q
      have hx':x=n:=by simpa using hxn
      subst hx';have:c=c':=by simpa using q
      subst this;exact .inl hc
     ·rw [eL.mpr hxn] at q
      exact .inr q
   ·rcases Ν.mp hx with q | q
    ·have hx':x=n:=congrArg Prod.fst q
     subst hx';exact d x c (by rw [Υ];simp)
    ·exact b x q
   ·have:∃ d',((n,c)::cs).lookup x=some d':=by
     rw [Υ];by_cases hxn:(x==n)=true
     ·rw [hxn];exact ⟨c,rfl⟩
     ·rw [eL.mpr hxn];exact ⟨c',hx⟩
    obtain ⟨d',hd'⟩:=this;exact d x d' hd'
  ·obtain ⟨cl,e,a,b,d⟩:=Va env r cs (λx hx=>h x (bE _ hx))
   have hkf:(k==ρ)=false:=by simpa using hk
   refine ⟨cl,?_,a,λx hx=>?_,d⟩
   ·rw [List.forIn_cons]
    simp only [hkf,ek,if_false,pure_bind];exact e
   ·rcases Ν.mp hx with q | q
    ·exact absurd (congrArg Prod.snd q).symm hk
    ·exact b x q
theorem VG (env:Env) (scope:ci) (h:∀ x,(x,ρ)∈scope.names->∃ c,env.cells.lookup x=some c) :
  ∃ cl,closureFor scope env=pure cl/\(∀ x c,cl.lookup x=some c->env.cells.lookup x=some c)/\(∀ x,(x,ρ)∈scope.names->∃ c,cl.lookup x=some c):=by
 obtain ⟨cl,e,a,b,_⟩:=Va env scope.names [] h;refine ⟨cl,?_,λx c hx=>(a x c hx).elim id (λz=>by simp at z),b⟩;unfold closureFor;simp only [bind_pure];exact e
def cB (X:Cx) (scope:ci) (N':List Str) (cl:List (Str×Addr)) (C:Addr) (s₀:Ζ) (H₀:Hp) (fp:List Addr) (pn:List (Addr×Obj)):Cx :=
 { X with N:=N',s₀:=s₀,H₀:=H₀,env:=df scope cl C X.env,outer:=X.stack,ex:=fp,fn:=λ_=>false,pn:=pn,xe:=λ_ _=>False }
inductive eO (X:Cx) (scope:ci):List (Option Nat)->List Str->Prop
 | nil:eO X scope [] []
 | own {x src N'}:eO X scope src N'->eO X scope (none::src) (x::N')
 | cap {x i src N'}:X.N[i]?=some x->scope.names.lookup x=some ρ->(X.env.scope.names.lookup x=some c9\/X.env.scope.names.lookup x=some ρ)->eO X scope src N'->eO X scope (some i::src) (x::N')
def Yy (src:List (Option Nat)) (σ:St):St:=src.map λo=>match o with | none=>none | some i=>σ.getD i none
theorem eO.length {X:Cx} {scope:ci}:∀ {src:List (Option Nat)} {N':List Str},eO X scope src N'->src.length=N'.length
 | _,_,.nil=>rfl
 | _,_,.own h=>congrArg (·+1) h.length
 | _,_,.cap _ _ _ h=>congrArg (·+1) h.length
theorem eO.get {X:Cx} {scope:ci} {σ:St}:∀ {src:List (Option Nat)} {N':List Str},eO X scope src N'->∀ (j:Nat) (x:Str) (v:V),N'[j]?=some x->(Yy src σ)[j]?=some (some v) ->
  ∃ i:Nat,X.N[i]?=some x/\σ[i]?=some (some v)/\scope.names.lookup x=some ρ/\(X.env.scope.names.lookup x=some c9\/X.env.scope.names.lookup x=some ρ)
 | _,_,.nil,j,x,v,h,_=>by simp at h
 | _,_,.own h,0,x,v,_,e=>by simp [Yy] at e
 | _,_,.own h,j+1,x,v,e1,e2=>h.get j x v (by simpa using e1) (by simpa [Yy] using e2)
 | _,_,.cap (x:=y) (i:=i) hN hf hk h,0,x,v,e1,e2=>by
  have ex:y=x:=by simpa using e1
  subst ex;refine ⟨i,hN,?_,hf,hk⟩;simp only [Yy,χ,List.getElem?_cons_zero,Option.some.injEq] at e2;rw [ah] at e2
  cases q:σ[i]? with
  | none=>rw [q] at e2;simp at e2
  | some o=>rw [q] at e2;simp at e2;rw [e2]
 | _,_,.cap hN hf hk h,j+1,x,v,e1,e2=>h.get j x v (by simpa using e1) (by simpa [Yy] using e2)
theorem Wp (env:Env) (x:Str):∀ {names:List (Str×gi)},
  (names.map λ(n,k)=>if (k==ρ&&env.scope.kind == .function&&env.kindOf n==some .cell) then (n,c9) else (n,k)).lookup x =
   (names.lookup x).map λk=>if (k==ρ&&env.scope.kind == .function&&env.kindOf x==some .cell) then c9 else k
 | []=>rfl
 | (n,k)::r=>by
  have ih:=@Wp env x r;rw [χ];dsimp only;by_cases hx:(x==n)=true
  ·have e:x=n:=by simpa using hx
   subst e;by_cases hc:(k==ρ&&env.scope.kind == .function&&env.kindOf x==some .cell)=true
   ·rw [if_pos hc,Υ,Υ,hx]
    simp only [ez];rw [if_pos hc]
   ·rw [if_neg hc,Υ,Υ,hx]
    simp only [ez];rw [if_neg hc]
  ·have hx':=eL.mpr hx
   by_cases hc:(k==ρ&&env.scope.kind == .function&&env.kindOf n==some .cell)=true
   ·rw [if_pos hc];simp only [Υ,hx'];exact ih
   ·rw [if_neg hc];simp only [Υ,hx'];exact ih
theorem XV {names:List (Str×gi)} {x:Str} (h:names.lookup x=some ρ):(x,ρ)∈names:=bj h
section
variable {X:Cx}
theorem YeW {scope:ci} {N':List Str} {src:List (Option Nat)} {cl:List (Str×Addr)} {pins:List (Addr×Obj)} {σ:St} {H:Hp} {s s':Ζ} {h':Heap} {tk:Nat} {fp:List Addr} {m:Str->Option Α}
  (hk:scope.kind = .function) (hcell:∀ y∈scope.names,y.2 ≠ .cell) (hcap:eO X scope src N')
  (a:∀ x c,cl.lookup x=some c->X.env.cells.lookup x=some c) (b:∀ x,(x,ρ)∈scope.names->∃ c,cl.lookup x=some c)
  (I:Inv X pins σ H s) (hf:∀ b∈fp,X2 X pins H b) (hfl:∀ b∈fp,b<s.heap.objs.size) (es':s'={ s with heap:=h',toks:=tk })
  (keep:∀ b o,s.heap.get? b=some o->h'.get? b=some o) (hn:h'.Ns s.heap.objs.size m) :
  Inv (cB X scope N' cl s.heap.objs.size s H fp (X.pn++pins)) [] (Yy src σ) H s':=by
 subst es';have kindOf:∀ x,(df scope cl s.heap.objs.size X.env).kindOf x=(scope.names.lookup x).map λk=>if (k==ρ&&X.env.scope.kind == .function&&X.env.kindOf x==some .cell) then c9 else k:=λx=>Wp X.env x
 have freeOf:∀ x,((df scope cl s.heap.objs.size X.env).kindOf x=some .cell\/(df scope cl s.heap.objs.size X.env).kindOf x=some .free)->scope.names.lookup x=some .free:=λx h=>by
  rw [kindOf] at h
  cases q:scope.names.lookup x with
  | none=>rw [q] at h;simp at h
  | some k =>
   rw [q] at h
   by_cases hkf:k=ρ
   ·rw [hkf]
   ·have tW:(k==ρ)=false:=by simpa using hkf
    simp only [ez,tW,Bool.false_and,ek,if_false] at h;rcases h with h | h
    ·exact absurd (Δ h) (hcell _ (bj q))
    ·exact absurd (Δ h) hkf
 refine ⟨⟨I.ok.mod,hk,I.ok.glob,I.ok.blt,Κ _,λx y c h1 h2=>I.ok.inj x y c (a x c h1) (a y c h2),λx hx=>b x (XV (freeOf x hx)),(λx c z _=>nomatch z),I.ok.hd,I.ok.frames,.inl rfl,λb' hb=>?_,I.bs,Τ I.ok.gA I.sz,λb' o e hb=>?_,λb' hb z=>?_,I.stack,I.jF⟩,
  rfl,I.bare,Un.kept keep,⟨m,hn,λj x v h1 h2 h3=>?_⟩,λx c h=>?_,I.hok.fresh (Κ _),λx c h=>I.bK x c (a x c h),λp hp=>?_,I.hok.kept keep,?_⟩
 ·obtain ⟨f0,f1,f2,f3,f4,f5⟩:=hf b' hb
  exact ⟨ο (hfl b' hb),λx c h=>f4 x c (a x c h)⟩
 ·obtain ⟨f0,f1,f2,f3,f4,f5⟩:=hf b' hb
  rcases f3 with z | z
  ·exact I.ok.jE b' o e z
  ·exact absurd (ξ (Ψ e) (Τ I.ok.gA z)) (cz _)
 ·obtain ⟨f0,f1,f2,f3,f4,f5⟩:=hf b' hb
  rcases Ν.mp (I.dM b' z) with e | e
  ·exact f1 e
  ·exact f2 e
 ·obtain ⟨i,e1,e2,e3,e4⟩:=hcap.get j x v h1 h2
  obtain ⟨m0,hn0,hl⟩:=I.loc;obtain ⟨u,r,l⟩:=hl i x v e1 e2 (by rcases e4 with e4 | e4;exact .inr (.inl e4);exact .inr (.inr e4));refine ⟨u,r,?_⟩;rcases l with ⟨l,_⟩ | ⟨k,c,e,z⟩
  ·have l':X.env.scope.names.lookup x=some gi.local:=l
   rcases e4 with e4 | e4<;>(rw [e4] at l';cases l')
  ·refine .inr ⟨?_,?_⟩
   ·show (df scope cl s.heap.objs.size X.env).kindOf x=some .cell\/(df scope cl s.heap.objs.size X.env).kindOf x=some .free
    rw [kindOf,e3];simp only [ez]
    split
    ·exact .inl rfl
    ·exact .inr rfl
   ·obtain ⟨c',hc'⟩:=b x (XV e3)
    have:=a x c' hc';rw [e] at this
    cases this
    obtain ⟨o,ho,hd⟩:=z;exact ⟨c,hc',o,keep _ _ ho,hd⟩
 ·obtain ⟨v,o,ho,hd⟩:=I.cell x c (a x c h)
  exact ⟨v,o,keep _ _ ho,hd⟩
 ·have hp':p∈X.pn++pins:=by simpa [cB] using hp
  obtain ⟨e,n,ne,nf,d⟩:=I.pin p hp';refine ⟨keep _ _ e,n,ο (Ψ e),λz=>?_,d⟩;rcases Ν.mp (I.dM p.1 z) with q | q
  ·exact ne q
  ·exact nf q
 ·show (Yy src σ).length=N'.length
  rw [<- hcap.length];simp [Yy]
end
section
variable {prog:δ} {w:ι} {A:ag} {R:Result->Ζ->Prop} {s:Ζ}
theorem Yc3 {elt tg iter:Expr} {ifs:List Expr} {scope:ci} {pos:Pos} {it acc:Α} {env:Env} (J:Nat->Ζ->Prop)
  (turn:∀ n s,J n s->Χ (Ω prog w) A (pyNext it) (λr s₁=>match r with
    | none=>R (.ok .next) s₁
    | some v=>Χ (Ω prog w) A (fw tg it v) (λ_ z₁=>Χ (Ω prog w) A (assign tg env v) (λ_ s₂ =>
      Χ (Ω prog w) A (forIn ifs true λc r=>if r=true then do let ok <- isTrue c env (eval c env);pure (dq ok) else pure (dq r))
       (λok s₃=>if ok=true then Χ (Ω prog w) A (eval elt env) (λx s₄=>Χ (Ω prog w) A (call (.builtin "list.append") [acc,x]) (λ_ s₅=>∃ m,m<n/\J m s₅) (λ_ _=>False) s₄) (notedBy (Ω prog w) A env λe s'=>R (.error e) s') s₃
        else ∃ m,m<n/\J m s₃) (λ_ _=>False) s₂) (λ_ _=>False) z₁) (λ_ _=>False) s₁) (λ_ _=>False) s)
  (n:Nat) (h:J n s):gv (Ω prog w) A (.compLoop (.ListComp elt [⟨tg,iter,ifs,0⟩] scope pos) 0 it acc env) R s:=by
 refine codeAny_loop rfl J (λn s hJ=>?_) n h
 show Χ _ A (Sem.onRaise (compTurn (.ListComp elt [⟨tg,iter,ifs,0⟩] scope pos) 0 it acc env) (λx=>do noteFrame x env;theTreesLotGoes x)) _ _ s
 refine wpAny_noted ?_;rw [compTurn_list];have no:∀ {E:Α->Ζ->Prop},∀ (e:Α) (s':Ζ),False->E e s':=λ_ _ f=>f.elim
 refine Ι (wpAny_standAt (Ι (a5 (turn n s hJ) (λr s₁ h₁=>?_) no)))
 cases r with
 | none=>exact Ρ h₁
 | some v =>
  refine Ι (a5 h₁ (λ_ z₁ hz=>?_) no);refine Ι (a5 hz (λ_ s₂ h₂=>Ι (a5 h₂ (λok s₃ h₃=>?_) no)) no)
  cases ok with
  | false=>exact Ρ ⟨rfl,h₃⟩
  | true =>
   exact Ι (Ι (a5 h₃ (λx s₄ h₄=>Ι (a5 h₄ (λ_ s₅ h₅=>Ρ (Ρ ⟨rfl,h₅⟩)) no)) λ_ _ z=>z))
end
def m7 (X:Cx) (ifs:List Expr) (t:TT):Prop :=
 ∀ (pins:List (Addr×Obj)) (s:Ζ) (σ:St) (H:Hp) (Q:Bool->Hp->Prop),Inv X pins σ H s->t σ H Q ->
  Χ (Ω X.prog X.w) X.A (forIn ifs true λc r=>if r=true then do let ok <- isTrue c X.env (eval c X.env);pure (dq ok) else pure (dq r)) (TP X pins σ Q) X.xe s
def XF:TT:=λ_ H Q=>Q true H
theorem Y5 {X:Cx}:m7 X [] XF:=λ_ _ _ H _ I h=>wpAny_tests_nil ⟨H,I,h⟩
theorem QF {X:Cx} {c:Expr} {t:TT} (h:PT X c t):m7 X [c] t:=λpins s σ H Q I q=>wpAny_tests_one (h pins s σ H Q I q)
def LC (src:List (Option Nat)) (J:It) (g:TG) (tt:TT) (te:TE) (σ:St) (H1:Hp) (Q:VK) (D:Addr):Prop:=∃ W:Nat->Nat->List V->St->Hp->Prop,(∃ m,W 0 m [] (Yy src σ) (upd H1 D (.lst []))) /\
 ∀ i m ys σ' H2,W i m ys σ' H2->H2 D=some (.lst ys)/\((J.stop i H2/\Q (.ref D) H2)\/(J.go i H2/\∃ N:List V->St->Hp->Prop,(∀ ys' σ3 H3,N ys' σ3 H3->∃ m',m'<m/\W (i+1) m' ys' σ3 H3)/\∀ x H3,J.jc i H2 x H3->g x σ' H3 λσ2 H4=>tt σ2 H4 λb H5 =>
  if b=true then te σ2 H5 λy H6=>H6 D=some (.lst ys)/\ys.length<sizeLine/\N (ys++[y]) σ2 (upd H6 D (.lst (ys++[y])))
  else N ys σ2 H5))
def cW (src:List (Option Nat)) (wi:TI) (g:TG) (tt:TT) (te:TE):TE:=λσ H Q=>wi σ H λJ H1=>∀ D,H1 D=none->LC src J g tt te σ H1 Q D
section
variable {X:Cx}
theorem Hl {elt tg iter:Expr} {ifs:List Expr} {scope:ci} {pos:Pos} {src:List (Option Nat)} {N':List Str} {g:TG} {tt:TT} {te:TE} {cl:List (Str×Addr)} {pins:List (Addr×Obj)} {σ:St} {Q:VK} {itv:Α} {s2:Ζ} {Po:Α->Addr->Result->Ζ->Prop} {Z:Addr->Ζ->Hp->List Addr->List (Addr×Obj)->Α->Ζ->Prop}
  (hcap:eO X scope src N') (hc:X.calm=true) (hg:∀ C s₀ H₀ fp pn,PG (cB X scope N' cl C s₀ H₀ fp pn) tg g) (ht:∀ C s₀ H₀ fp pn,m7 (cB X scope N' cl C s₀ H₀ fp pn) ifs tt)
  (he:∀ C s₀ H₀ fp pn,PE ((cB X scope N' cl C s₀ H₀ fp pn).wish (Z C s₀ H₀ fp pn)) elt te) (hk:scope.kind = .function) (hcell:∀ y∈scope.names,y.2 ≠ .cell) (a:∀ x c,cl.lookup x=some c->X.env.cells.lookup x=some c) (b:∀ x,(x,ρ)∈scope.names->∃ c,cl.lookup x=some c)
  (h2:PIE X pins σ tg (λJ H1=>∀ D,H1 D=none->LC src J g tt te σ H1 Q D) itv s2)
  (done:∀ (D C:Addr) (s6:Ζ) (H5:Hp),(∀ h',bP C s6.heap h'->Inv X pins σ H5 { s6 with heap:=h' })->(∃ m,s6.heap.Ns C m)->H5 C=none->(∀ {H':Hp},H' C=none->X2 X pins H' C)->Q (.ref D) H5->Po (.ref D) C (.ok .next) s6)
  (gone:∀ (D:Addr) (s3:Ζ) (H3:Hp) (fp:List Addr),Inv X pins σ H3 s3->(∀ {H':Hp} {s':Ζ} {σ':St} {dJ:List (Addr×Obj)},Inv (cB X scope N' cl s3.heap.objs.size s3 H3 fp (X.pn++pins)) dJ σ' H' s'->∀ h',bP s3.heap.objs.size s'.heap h'->Inv X pins σ H' { s' with heap:=h' }) ->
   ∀ e s',Z s3.heap.objs.size s3 H3 fp (X.pn++pins) e s'->notedBy (Ω X.prog X.w) X.A (df scope cl s3.heap.objs.size X.env) (λe s'=>Po (.ref D) s3.heap.objs.size (.error e) s') e s') :
  Χ (Ω X.prog X.w) X.A (newList []) (λacc s₃=>Χ (Ω X.prog X.w) X.A (newFunctionEnv scope X.env.globals cl [] X.env.qual none ic (some X.env)) (λcenv s₄ =>
   gv (Ω X.prog X.w) X.A (.compStart (.ListComp elt [⟨tg,iter,ifs,0⟩] scope pos) 0 itv acc { cenv with scope:=relabel scope X.env }) (Po acc cenv.locals) s₄) X.xe s₃) X.xe s2:=by
 obtain ⟨it,fp,tn,J,H2,e,I2,T,st2,f2,q⟩:=h2;subst e;have hD:H2 s2.heap.objs.size=none:=I2.hok.fresh (Κ _);obtain ⟨W,⟨m0,w0⟩,turn⟩:=q s2.heap.objs.size hD;have I3:=I2.tQ (t':=s2.toks) (ys:=[]) (its:=[]) .nil (ν _);have yr:∀ b∈fp,b<s2.heap.objs.size:=λb hb=>by
  obtain ⟨o,e,_⟩:=T.obj _ _ st2 b hb;exact Ψ e
 refine bp ?_;generalize p7:({ s2 with heap:=s2.heap.push { cls := .type "list",dict:=none,data := .seq ([]:List Α).toArray } }:Ζ)=s3;have jk:Inv X pins σ (upd H2 s2.heap.objs.size (.lst [])) s3:=p7▸I3
 have oJ:∀ b o,s2.heap.get? b=some o->s3.heap.get? b=some o:=λb o e=>by rw [<- p7];exact Ο _ e
 have st3:tn 0 s3.heap:=T.keep _ _ _ st2 λb _ o e=>oJ b o e
 have m8:∀ b∈fp,b<s3.heap.objs.size:=λb hb=>by
  obtain ⟨o,e,_⟩:=T.obj _ _ st3 b hb;exact Ψ e
 have f3:∀ b∈fp,X2 X pins (upd H2 s2.heap.objs.size (.lst [])) b:=λb hb=>⟨by rw [Ye (ο (yr b hb))];exact (f2 b hb).1,(f2 b hb).2⟩
 generalize eD:s2.heap.objs.size=D at *;generalize eH3:upd H2 D (.lst [])=H3 at *;refine wpAny_newFunctionEnv hcell (by intro y hy;simp at hy) (λh₁ hns₁ hsb₁=>?_) hk;have f9:∀ b o,s3.heap.get? b=some o->h₁.get? b=some o:=λb o e=>hsb₁.extBut b o (ο (Ψ e)) (Ο _ e)
 have I4:=YeW (N':=N') (src:=src) (tk:=s3.toks+([]:List (Str×Α)).length) hk hcell hcap a b jk f3 m8 rfl f9 hns₁;have stat:∀ {H':Hp},(∀ b∈fp,H' b=none)->∀ b∈fp,X2 (cB X scope N' cl s3.heap.objs.size s3 H3 fp (X.pn++pins)) [] H' b:=λhn b' hb=>by
  obtain ⟨f0,f1,fs,fe,f4,f5⟩:=f3 b' hb;refine ⟨hn b' hb,ο (m8 b' hb),λz=>?_,.inl hb,λx c h=>f4 x c (a x c h),λp hp=>f5 p (by simpa [cB] using hp)⟩;rcases Ν.mp (jk.dM b' z) with e | e
  ·exact f1 e
  ·exact fs e
 have fin:∀ {H':Hp} {s':Ζ} {σ':St} {dJ:List (Addr×Obj)},Inv (cB X scope N' cl s3.heap.objs.size s3 H3 fp (X.pn++pins)) dJ σ' H' s'->∀ h',bP s3.heap.objs.size s'.heap h'->Inv X pins σ H' { s' with heap:=h' }:=λ{H' s' σ' dJ} J' h' sb=>by
  have same:∀ b o,b≠s3.heap.objs.size->s'.heap.get? b=some o->h'.get? b=some o:=λb o hb e=>sb.extBut b o hb e
  have u:Un (frs X.stack) fp H3 H' s3.heap s'.heap:=J'.base;refine jk.call' (s':={ s' with heap:=h' }) (ch:=fp) J'.os ⟨λb o e n hb hx=>?_,λb o e n hb hx=>?_,u.free,λb o e hx=>?_,u.tups,u.dB,u.dF⟩ (λb o e=>?_) J'.bare λb hb=>?_
  ·exact same b o (ο (Ψ e)) (u.keep b o e n hb hx)
  ·obtain ⟨sl,z⟩:=u.slot b o e n hb hx
   exact ⟨sl,same b _ (ο (Ψ e)) z⟩
  ·obtain ⟨o',z⟩:=u.there b o e hx
   exact ⟨o',same b o' (ο (Ψ e)) z⟩
  ·have nC:∀ c v,H' c=some v->c≠s3.heap.objs.size:=λc v z q=>by
    have:=J'.free;rw [show (cB X scope N' cl s3.heap.objs.size s3 H3 fp (X.pn++pins)).env.locals=s3.heap.objs.size from rfl,<- q,z] at this
    cases this
   refine (J'.hok b o e).stay (λc v hc q=>same c v ?_ q) (λ_ q=>q) λ_ _ q=>q
   rcases hc with z | z
   ·rw [z];exact nC b o e
   ·exact nC c _ z
  ·obtain ⟨f0,f1,fs,fe,f4,f5⟩:=f3 b hb
   exact ⟨fe,f1,f4,f5⟩
 have loop:gv (Ω X.prog X.w) X.A (.compLoop (.ListComp elt [⟨tg,iter,ifs,0⟩] scope pos) 0 (.ref it) (.ref D) (df scope cl s3.heap.objs.size X.env))
   (Po (.ref D) s3.heap.objs.size) { s3 with heap:=h₁,toks:=s3.toks+([]:List (Str×Α)).length }:=by
  refine Yc3 (λn s'=>∃ i ys σ' H',Inv (cB X scope N' cl s3.heap.objs.size s3 H3 fp (X.pn++pins)) [] σ' H' s'/\tn i s'.heap/\(∀ b∈fp,H' b=none)/\W i n ys σ' H') ?_ m0 ⟨0,[],Yy src σ,H3,I4,T.keep _ _ _ st3 λb _ o e=>f9 b o e,λb hb=>(f3 b hb).1,w0⟩;rintro n s5 ⟨i,ys,jl,H5,I5,jf,kY,w5⟩;obtain ⟨hDs,stop | go⟩:=turn i n ys jl H5 w5
  ·obtain ⟨stop,qn⟩:=stop
   refine aA (T.done (cB X scope N' cl s3.heap.objs.size s3 H3 fp (X.pn++pins)) rfl rfl rfl hc i [] s5 jl H5 _ I5 (stat kY) jf stop) λr s6 ⟨hr,I6⟩=>?_
   subst hr;obtain ⟨m,hn,_⟩:=id I6.loc;exact done D _ s6 H5 (λh' sb=>fin I6 h' sb) ⟨m,hn⟩ I6.free (λz=>jk.iR (Κ _) z) qn
  ·obtain ⟨go,N,hN,step⟩:=go
   refine aA (T.item (cB X scope N' cl s3.heap.objs.size s3 H3 fp (X.pn++pins)) rfl rfl rfl hc i [] s5 jl H5 _ I5 (stat kY) jf go) λr s6 ⟨u,hr,h6⟩=>?_
   subst hr;refine aA h6 λ_ s7 ⟨x,H7,I7,r7,y7,lg,yt⟩=>?_
   have yu:=I7.pinned (stat yt) (T.obj _ _ lg);have again:∀ {s8:Ζ} {dN:St} {H8:Hp} {ys':List V},Inv (cB X scope N' cl s3.heap.objs.size s3 H3 fp (X.pn++pins)) ([]++Vr fp s7.heap) dN H8 s8->(∃ m',m'<n/\W (i+1) m' ys' dN H8) ->
     ∃ m,m<n/\∃ i ys σ' H',Inv (cB X scope N' cl s3.heap.objs.size s3 H3 fp (X.pn++pins)) [] σ' H' s8/\tn i s8.heap/\(∀ b∈fp,H' b=none)/\W i m ys σ' H':=λ{s8 dN H8 ys'} I8 ⟨m',hm,w8⟩=>by
    refine ⟨m',hm,i+1,ys',dN,H8,I8.dH,T.keep _ _ _ lg λb hb o e=>(I8.pin (b,o) (υ _ (υ _ (XM hb e)))).1,λb hb=>?_,w8⟩;obtain ⟨o,e,d⟩:=T.obj _ _ lg b hb;exact (I8.pin (b,o) (υ _ (υ _ (XM hb e)))).2.1
   refine aA (hg _ s3 H3 fp _ _ s7 jl H7 x u _ yu r7 (step x H7 y7)) λ_ s8 ⟨dN,H8,I8,q8⟩=>?_
   refine aA (ht _ s3 H3 fp _ _ s8 dN H8 _ I8 q8) λok s9 ⟨H9,I9,q9⟩=>?_
   cases ok with
   | false=>exact again I9 (hN _ _ _ q9)
   | true =>
    rw [if_pos rfl];refine a5 (he _ s3 H3 fp _ _ s9 dN H9 _ (I9.wish _) q9) (λy bU ⟨yv,p8,Rt,r10,yw⟩=>?_) (gone D s3 H3 fp jk fin);have yC:=Rt.cV;obtain ⟨lq,hlen,w10⟩:=yw;refine aA (XJ (X:=cB X scope N' cl s3.heap.objs.size s3 H3 fp (X.pn++pins)) _ bU dN p8 (.ref D) [yv] (.ref D) [y] (λ_ H'=>H'=upd p8 D (.lst (ys++[yv]))) yC rfl (.cons r10 .nil) ⟨ys,lq,hlen,rfl⟩) λ_ s11 ⟨_,H11,yD,_,yE⟩=>?_
    subst yE;exact again yD (hN _ _ _ w10)
 exact codeAny_compStart_list loop (T.self _ 0 _ _ _ (T.keep _ _ _ st3 λb _ o e=>f9 b o e) loop)
theorem Xn {elt tg iter:Expr} {ifs:List Expr} {scope:ci} {pos:Pos} {src:List (Option Nat)} {N':List Str} {wi:TI} {g:TG} {tt:TT} {te:TE} (hcap:eO X scope src N') (hc:X.calm=true) (hi:PI X tg iter wi)
  (hg:∀ cl C s₀ H₀ fp pn,PG (cB X scope N' cl C s₀ H₀ fp pn) tg g) (ht:∀ cl C s₀ H₀ fp pn,m7 (cB X scope N' cl C s₀ H₀ fp pn) ifs tt) (he:∀ cl C s₀ H₀ fp pn,PE (cB X scope N' cl C s₀ H₀ fp pn) elt te)
  (hfree:∀ x,(x,ρ)∈scope.names->X.env.scope.names.lookup x=some c9\/X.env.scope.names.lookup x=some ρ:=by intro x hx;simp at hx;first | (subst hx;exact .inl rfl) | (rcases hx with rfl | rfl<;>exact .inl rfl) | (rcases hx with rfl | rfl | rfl<;>exact .inl rfl) | (rcases hx with rfl | rfl | rfl | rfl<;>exact .inl rfl) | (rcases hx with rfl | rfl | rfl | rfl | rfl<;>exact .inl rfl))
  (hk:scope.kind = .function:=by rfl) (hcell:∀ y∈scope.names,y.2 ≠ .cell:=by decide) (hnames:∀ y∈scope.names,y.2 = .local->scope.names.lookup y.1=some .local:=by decide +kernel)
  (hs:∀ x,ii iter X.env x=pure x:=by intro _;rfl):PE X (.ListComp elt [⟨tg,iter,ifs,0⟩] scope pos) (cW src wi g tt te):=by
 intro pins s σ H Q I h;obtain ⟨cl,hcl,a,b⟩:=VG X.env scope λx hx=>I.ok.has x (hfree x hx)
 rw [eval_ListComp];refine wpAny_comprehension_free (use:=none) rfl hs hcl hk hnames (aA (hi pins s σ H _ I h) λv s1 h1=>aA h1 λitv s2 h2=>?_);exact Hl (Po:=λv C=>compPost (Ω X.prog X.w) X.A X.xe none (EP X pins σ Q) v C) (Z:=λ_ _ _ _ _ _ _=>False) hcap hc (hg cl) (ht cl) (he cl) hk hcell a b h2 (λD C s6 H5 fi ⟨m,hn⟩ _ _ qn=>⟨m,hn,λh' sb=>⟨.ref D,H5,fi h' sb,rfl,qn⟩⟩) λ_ _ _ _ _ _ _ _ z=>z.elim
end
def VH (x:Str) (lo hi:Option Int):Str:=⟨((x.cps.toList.drop (HT.aN x.length 0 lo)).take (HT.aN x.length x.length hi - HT.aN x.length 0 lo)).toArray⟩
theorem Qg (lo hi:Option Int) (n:Nat):bv lo hi 1 n=(ζ (HT.aN n n hi - HT.aN n 0 lo)).map λk=>HT.aN n 0 lo+k:=by
 have clip:∀ (v:Int) (d:Nat),max 0 (min (if v<0 then v+(n:Int) else v) (n:Int))=((HT.aN n d (some v):Nat):Int):=λv d=>by
  show _=(((if v<0 then (v+(n:Int)).toNat else min v.toNat n):Nat):Int)
  by_cases hv:v<0
  ·simp only [if_pos hv];omega
  ·simp only [if_neg hv];omega
 have key:∀ (i j:Nat),jj (i:Int) (j:Int) 1=(ζ (j - i)).map λk=>i+k:=λi j=>by
  unfold jj;have e:(if (1:Int)>0 then (if (i:Int)<(j:Int) then ((j:Int) - (i:Int)+1 - 1) / 1 else 0) else (if (i:Int)>(j:Int) then ((i:Int) - (j:Int) - 1 - 1) / (-1) else 0)).toNat=j - i:=by
   rw [if_pos (by decide)];by_cases h:(i:Int)<(j:Int)
   ·rw [if_pos h,gS];omega
   ·rw [if_neg h];omega
  dsimp only;rw [e];refine a9 λk _=>?_
  omega
 have lo':(match lo with | none=>(0:Int) | some v=>max 0 (min (if v<0 then v+(n:Int) else v) (n:Int)))=((HT.aN n 0 lo:Nat):Int):=by
  cases lo with
  | none=>rfl
  | some v=>exact clip v 0
 have hi':(match hi with | none=>(n:Int) | some v=>max 0 (min (if v<0 then v+(n:Int) else v) (n:Int)))=((HT.aN n n hi:Nat):Int):=by
  cases hi with
  | none=>rfl
  | some v=>exact clip v n
 rw [<- key,<- lo',<- hi'];unfold bv
 cases lo<;>cases hi<;>simp
theorem Ho (x:Str) (lo hi:Option Int):Txt.slice x lo hi=VH x lo hi:=by
 have agX:=HT.kZ x.length 0 (ν _) lo;have agY:=HT.kZ x.length x.length (Κ _) hi;have core:((bv lo hi 1 x.length).filterMap (x.cps[·]?))=(x.cps.toList.drop (HT.aN x.length 0 lo)).take (HT.aN x.length x.length hi - HT.aN x.length 0 lo):=by
  rw [Qg,g9];generalize HT.aN x.length 0 lo=i;generalize HT.aN x.length x.length hi - i=k;have gen:∀ (l:List Nat) (k:Nat),(ζ k).filterMap (λm=>l[m]?)=l.take k:=by
   intro l k
   induction k with
   | zero=>simp
   | succ k ih =>
    rw [dn,gh,ih];by_cases hk:k<l.length
    ·rw [List.take_succ_eq_append_getElem hk];simp [hk]
    ·have h1:l.take (k+1)=l:=am (by omega)
     have h2:l.take k=l:=am (by omega);rw [h1,h2];simp [hk]
  have e:((λj=>x.cps[j]?) ∘ λk=>i+k)=λm=>(x.cps.toList.drop i)[m]?:=by
   funext m
   simp [List.getElem?_drop]
  rw [e,gen]
 unfold Txt.slice VH;rw [core]
 split
 ·rename_i h
  simp only [beq_self_eq_true,Bool.true_and,beq_iff_eq] at h;rw [Qg,Β,a4] at h
  have h0:HT.aN x.length 0 lo=0\/x.length=0:=by omega
  have e:(x.cps.toList.drop (HT.aN x.length 0 lo)).take (HT.aN x.length x.length hi - HT.aN x.length 0 lo)=x.cps.toList:=by
   have hl:x.cps.toList.length=x.length:=by simp [kr]
   rcases h0 with h0 | h0
   ·rw [h,h0,List.drop_zero,am (by omega)]
   ·have:x.cps.toList=[]:=List.eq_nil_of_length_eq_zero (by omega)
    rw [this];simp
  rw [e]
 ·rfl
theorem QG (x:Str) (lo hi:Option Int):(VH x lo hi).length<=x.length:=by
 rw [<- Ho];exact Txt.slice_le x lo hi
def Ru:V->Option Int->Option Int->Hp->VK->Prop:=λx lo hi H Q=>∃ z,x = .str z/\z.length<=sizeLine/\Q (.str (VH z lo hi)) H
section
variable {X:Cx}
theorem Yhe:xV X Ru:=by
 intro pins s σ H x v vl vu lo hi sl Q I rx hs pl pu h;obtain ⟨z,rfl,hz,q⟩:=h;obtain ⟨t,rfl⟩:=rx;refine ⟨"str",_,F.slot_str_getitem.lookup,typeIs_str _ _ _,?_⟩;have fin:∀ (l u:Option (Int×Tok)),l.map (·.1)=lo->u.map (·.1)=hi->s.heap.IsSlice sl l u none->Χ (Ω X.prog X.w) X.A (fq (.str z t) (.ref sl)) (EP X pins σ Q) X.xe s:=λl u el eu hsl=>by
  refine wpAny_getItem_str_slice (l:=l) (u:=u) (st:=none) hsl rfl ?_;have e:(if (((none:Option (Int×Tok)).map (·.1)).getD 1==1&&(slicePicked z l u none).length==z.length)=true then z else ⟨((slicePicked z l u none).filterMap (z.cps[·]?)).toArray⟩)=VH z lo hi:=by
   rw [<- Ho,<- el,<- eu];rfl
  refine post_val_or_str ⟨by rw [e];exact Τ (QG z lo hi) hz,λt' k=>?_⟩;rw [e];exact ⟨.str (VH z lo hi),H,I.tok k,⟨t',rfl⟩,q⟩
 obtain ⟨o,ho,hc,hd⟩:=hs
 cases pl with
 | none =>
  cases pu with
  | none=>exact fin none none rfl rfl ⟨o,ho,hc,hd⟩
  | int j tj=>exact fin none (some (j,tj)) rfl rfl ⟨o,ho,hc,hd⟩
 | int i ti =>
  cases pu with
  | none=>exact fin (some (i,ti)) none rfl rfl ⟨o,ho,hc,hd⟩
  | int j tj=>exact fin (some (i,ti)) (some (j,tj)) rfl rfl ⟨o,ho,hc,hd⟩
def Its (x:Str):It:=⟨λi _=>i<x.length,λi H v H'=>H'=H/\∃ c,x.cps.toList[i]?=some c/\v = .str ⟨#[c]⟩,λi _=>x.length<=i⟩
theorem YeX {P:δ} {w:ι} {K:Θ} {tg:Expr} (x:Str) (t:Tok) (it:Addr):Turn P w K tg (Its x) [it] it (λi h=>h.IsStrIter it "str_ascii_iterator" x t i\/h.IsStrIter it "str_iterator" x t i) where
 mem:=by simp
 obj:=λi h st b hb=>by
  have e:b=it:=by simpa using hb
  subst e;rcases st with ⟨o,e,c,d⟩ | ⟨o,e,c,d⟩<;>exact ⟨o,e,λv z=>by rw [d] at z;cases z⟩
 keep:=λi h h' st k=>by
  rcases st with ⟨o,e,c⟩ | ⟨o,e,c⟩
  ·exact .inl ⟨o,k it (by simp) o e,c⟩
  ·exact .inr ⟨o,k it (by simp) o e,c⟩
 item:=by
  intro X hP hw hK hc i pins s σ H E I hf st hg;subst hP hw hK;have hi:i<x.cps.size:=hg;have hx:x.cps[i]?=some x.cps[i]:=by simp [hi]
  obtain ⟨f0,f1,f2,f3,f4,f5⟩:=hf it (by simp);have fin:∀ (ty:String) (h':Heap),["enumerate","zip","dict_itemiterator","dict_reverseitemiterator","odict_iterator","itertools.zip_longest","itertools.pairwise"].contains ty=false->h'.IsStrIter it ty x t (i+1)->bP it s.heap h' ->
    (h'.IsStrIter it ty x t (i+1)->(h'.IsStrIter it "str_ascii_iterator" x t (i+1)\/h'.IsStrIter it "str_iterator" x t (i+1))) ->
    ∃ u,some (iE ⟨#[x.cps[i]]⟩ s.toks)=some u/\Χ (Ω X.prog X.w) X.A (fw tg (.ref it) u) (λ_ s2=>∃ y H',Inv X pins σ H' s2/\YB y u/\(Its x).jc i H y H' /\
     (s2.heap.IsStrIter it "str_ascii_iterator" x t (i+1)\/s2.heap.IsStrIter it "str_iterator" x t (i+1))/\∀ b∈[it],H' b=none) E { s with heap:=h',toks:=s.toks+1 }:=λty h' hn st' sb hor=>by
   have I1:Inv X pins σ H { s with heap:=h',toks:=s.toks+1 }:=I.turned (t':=s.toks+1) (λb o hb e=>(sb.2 b hb).trans e) f0 f1 f3 f4 f5;obtain ⟨o,e,c,d⟩:=id st';exact ⟨_,rfl,U6 (s:={ s with heap:=h',toks:=s.toks+1 }) e c d hn ⟨.str ⟨#[x.cps[i]]⟩,H,I1,⟨_,rfl⟩,⟨rfl,x.cps[i],by simp [hi],rfl⟩,hor st',λb hb=>(hf b hb).1⟩⟩
  rcases st with st | st
  ·exact wpAny_pyNext_ascii_item st hx λh' st' sb=>fin _ h' (by decide) st' sb .inl
  ·exact wpAny_pyNext_wide_item st hx λh' st' sb=>fin _ h' (by decide) st' sb .inr
 done:=by
  intro X hP hw hK hc i pins s σ H E I hf st hg;subst hP hw hK;have hi:x.cps.size<=i:=hg;have hx:x.cps[i]?=none:=by simp [hi]
  obtain ⟨f0,f1,f2,f3,f4,f5⟩:=hf it (by simp);rcases st with st | st
  ·exact wpAny_pyNext_ascii_end (I.ok.hd hc) st hx λh' eb=>⟨rfl,I.turned (t':=s.toks) (λb o hb e=>eb b o hb e) f0 f1 f3 f4 f5⟩
  ·exact wpAny_pyNext_wide_end (I.ok.hd hc) st hx λh' eb=>⟨rfl,I.turned (t':=s.toks) (λb o hb e=>eb b o hb e) f0 f1 f3 f4 f5⟩
 self:=λA i s Q E st h=>by
  rcases st with st | st
  ·exact wpAny_pyIter_slot st.typeIs F.slot_str_ascii_iterator_iter (gs F.slot_str_ascii_iterator_iter st.typeIs F.entry_str_ascii_iterator_iter (Ρ ⟨_,rfl,"str_ascii_iterator",_,st.typeIs,F.slot_str_ascii_iterator_next.lookup,h⟩) (F.args_str_ascii_iterator_iter_1 _))
  ·exact wpAny_pyIter_slot st.typeIs F.slot_str_iterator_iter (gs F.slot_str_iterator_iter st.typeIs F.entry_str_iterator_iter (Ρ ⟨_,rfl,"str_iterator",_,st.typeIs,F.slot_str_iterator_next.lookup,h⟩) (F.args_str_iterator_iter_1 _))
end
section
variable {X:Cx} {tg:Expr}
def yF (tl:TE):TI:=λσ H R=>tl σ H λx H1=>∃ z,x = .str z/\R (Its z) H1
theorem Yhf {l:Expr} {tl:TE} (hl:PE X l tl):PI X tg l (yF tl):=by
 intro pins s σ H R I h;refine aA (hl pins s σ H _ I h) λv s1 ⟨x,H1,I1,r1,q1⟩=>?_
 obtain ⟨z,e,q⟩:=q1;subst e;obtain ⟨t,rfl⟩:=r1;refine wpAny_pyIter_strU ?_;refine ⟨s1.heap.objs.size,[s1.heap.objs.size],_,_,H1,rfl,I1.kept (t':=s1.toks) λb o e=>Ο _ e,YeX z t _,?_,λb hb=>?_,q⟩
 ·unfold strIterType
  split
  ·exact .inl ⟨_,af _ rfl,rfl,rfl⟩
  ·exact .inr ⟨_,af _ rfl,rfl,rfl⟩
 ·have e:b=s1.heap.objs.size:=by simpa using hb
  subst e;exact I1.iR (Κ _) (I1.hok.fresh (Κ _))
def X4 (J:It) (P:Hp->Prop) (xs:List V):Prop:=∀ H,P H->∀ i,(∀ x,xs[i]?=some x->J.go i H/\∀ y H',J.jc i H y H'->H'=H/\y=x)/\(xs.length<=i->J.stop i H)
theorem YdY (z:Str) (P:Hp->Prop):X4 (Its z) P (z.cps.toList.map λc => .str ⟨#[c]⟩):=λH _ i=>by
 refine ⟨λx hx=>?_,λhi=>?_⟩
 ·rw [Λ] at hx
  cases e:z.cps.toList[i]? with
  | none=>rw [e] at hx;simp at hx
  | some c =>
   rw [e] at hx
   have hx':V.str ⟨#[c]⟩=x:=by simpa using hx
   subst hx';have hi:i<z.cps.toList.length:=(Η.mp e).1;refine ⟨by show i<z.cps.size;simpa using hi,λy H' ⟨e1,c',e2,e3⟩=>⟨e1,?_⟩⟩;rw [e] at e2
   cases e2
   exact e3
 ·show z.cps.size<=i
  simpa using hi
theorem Hq {K:Θ} {a:Addr} {xs:List V}:X4 (mW K a) (λH=>aJ K H a xs) xs:=λH hq i=>by
 refine ⟨λx hx=>⟨⟨xs,x,hq,hx⟩,λy H' ⟨e1,e2⟩=>⟨e1,?_⟩⟩,λhi=>⟨xs,hq,hi⟩⟩;have:=e2 xs hq;rw [hx] at this
 exact (Δ this).symm
theorem XO {K:Θ} {a:Addr} {xs:List V}:X4 (mV K a) (λH=>au K H a xs) xs:=λH hq i=>by
 refine ⟨λx hx=>⟨⟨xs,x,hq,hx⟩,λy H' ⟨e1,e2⟩=>⟨e1,?_⟩⟩,λhi=>⟨xs,hq,hi⟩⟩;have:=e2 xs hq;rw [hx] at this
 exact (Δ this).symm
theorem WF {lo:Int} {n:Nat} {P:Hp->Prop}:X4 (je lo n) P ((ζ n).map λ(i:Nat)=>V.int (lo+i)):=λH hq i=>by
 refine ⟨λx hx=>?_,λhi=>by show n<=i;simpa using hi⟩;have hi:i<n:=by
  have:=(Η.mp hx).1;simpa using this
 refine ⟨hi,λy H' ⟨e1,e2⟩=>⟨e1,?_⟩⟩;rw [Λ,aS hi] at hx
 rw [e2];simpa using hx
theorem X4.imp {J:It} {P P':Hp->Prop} {xs:List V} (h:X4 J P xs) (hp:∀ H,P' H->P H):X4 J P' xs:=λH q=>h H (hp H q)
theorem Hr {J:It} {P:Hp->Prop} {xs:List V} (hJ:X4 J P xs) {src:List (Option Nat)} {g:TG} {tt:TT} {te:TE} {σ:St} {H1:Hp} {Q:VK} {D:Addr} (Pv:Nat->List V->St->Hp->Prop)
  (h0:Pv 0 [] (Yy src σ) (upd H1 D (.lst []))) (hP:∀ i ys σ' H',Pv i ys σ' H'->P H'/\H' D=some (.lst ys))
  (step:∀ i ys σ' H' x,xs[i]?=some x->Pv i ys σ' H'->g x σ' H' λσ2 H4=>tt σ2 H4 λb H5=>if b=true then te σ2 H5 λy H6=>H6 D=some (.lst ys)/\ys.length<sizeLine/\Pv (i+1) (ys++[y]) σ2 (upd H6 D (.lst (ys++[y]))) else Pv (i+1) ys σ2 H5)
  (fin:∀ ys σ' H',Pv xs.length ys σ' H'->Q (.ref D) H') :
  LC src J g tt te σ H1 Q D:=by
 refine ⟨λi m ys σ' H'=>m=xs.length - i/\i<=xs.length/\Pv i ys σ' H',⟨xs.length,by simp,ν _,h0⟩,?_⟩;rintro i m ys σ' H2 ⟨rfl,hi,p⟩;obtain ⟨hp,hD⟩:=hP i ys σ' H2 p;refine ⟨hD,?_⟩;by_cases hlt:i<xs.length
 ·obtain ⟨go,yl⟩:=(hJ H2 hp i).1 xs[i] (by simp [hlt])
  refine .inr ⟨go,λys' σ3 H3=>Pv (i+1) ys' σ3 H3,λys' σ3 H3 p'=>⟨xs.length - (i+1),by omega,rfl,hlt,p'⟩,λx H3 y=>?_⟩;obtain ⟨e1,e2⟩:=yl x H3 y;subst e1 e2;exact step i ys σ' _ _ (by simp [hlt]) p
 ·have e:i=xs.length:=by omega
  subst e;exact .inl ⟨(hJ H2 hp _).2 (Κ _),fin ys σ' H2 p⟩
theorem Yk.aj {H:Hp} {p:Addr} (h:H p=none) (o:HO):Yk H (upd H p o):=λb u q=>by rw [Ye (Yl q h)];exact q
theorem Yk.cu {H H':Hp} {p:Addr} (h:H p=none) (e:Yk H H') (o:HO):Yk H (upd H' p o):=λb u q=>by rw [Ye (Yl q h)];exact e b u q
theorem Yk.tup {K:Θ} {H H':Hp} {a:Addr} {xs:List V} (e:Yk H H') (h:aJ K H a xs):aJ K H' a xs:=by
 rcases h with (h | ⟨o,h⟩) | h
 ·exact .inl (.inl (e _ _ h))
 ·exact .inl (.inr ⟨o,e _ _ h⟩)
 ·exact .inr h
end
section
variable {X:Cx}
theorem Hs:∀ {ys:List Str} {us:List Α},Yt (ys.map V.str) us->StrsAre us ys
 | [],_,h=>by rw [Yt.zero h];exact .nil
 | y::ys,us,h=>by
  have h':Yt (V.str y::ys.map V.str) us:=h
  cases h' with
  | cons r t=>obtain ⟨t',rfl⟩:=r;exact .cons y t' (Hs t)
def rJoin (K:Θ):V->List V->Hp->VK->Prop:=λx vs H Q=>∃ (z:Str) (p:Addr) (ys:List Str),x = .str z/\vs=[.ref p]/\au K H p (ys.map V.str)/\(ys.map (·.length)).sum+ys.length*z.length<=16777216/\Q (.str (Txt.join z ys)) H
theorem Ygr:uR X "str.join" (rJoin X.K):=by
 intro pins s σ H x vs v us Q I rx rv h;obtain ⟨z,p,ys,rfl,rfl,hq,hl,q⟩:=h;obtain ⟨t,rfl⟩:=rx;obtain ⟨u,rfl,ru⟩:=rv.one
 cases ru
 obtain ⟨its,r,pl,hz⟩:=I.list hq;exact join_list pl.isList (by simpa using Hs r) hl λt' k=>⟨.str _,H,I.tok k,⟨t',rfl⟩,q⟩
def uW:V->Option Α
 | .ty n=>some (.type n)
 | .ref a=>some (.ref a)
 | _=>none
inductive Rv (K:Θ) (t cv:Α) (Q:Bool->Prop):Prop
 | mk (b:Bool) (h3:W.kitOne K t cv=some b) (q:Q b)
inductive IsQ (K:Θ) (H:Hp) (x c:V) (Q:Bool->Prop):Prop
 | mk (cv:Α) (h1:uW c=some cv) (t:Α) (h2:cJ K H x t) (q:Rv K t cv Q)
def yG (K:Θ):List V->Hp->VK->Prop:=λxs H Q=>k2 xs λx c=>IsQ K H x c λb=>Q (.bl b) H
theorem Xj:XU X (.builtin "isinstance") (yG X.K):=by
 intro pins s σ H xs us Q I r h;obtain ⟨x,c,rfl,cv,ec,t,ty,b,e,q⟩:=sO h;obtain ⟨u,w',rfl,ru,gC⟩:=uO r;have ew:w'=cv:=by
  cases c with
  | ty n=>cases (show w'=Value.type n from gC);simpa [uW] using ec
  | ref a=>cases (show w'=ae a from gC);simpa [uW] using ec
  | _=>simp [uW] at ec
 subst ew;exact YdN I ru ty e λtk=>⟨.bl b,H,I.tok tk,rfl,q⟩
end
structure Sub (P:δ) (w:ι) (i:Addr) (St:Nat->Heap->Prop) (Xo:Heap->(Nat->Option Α)->Prop):Prop where
 obj:∀ k h,St k h->∃ o,h.get? i=some o/\∀ v,o.data ≠ .cell v
 keep:∀ k h h',St k h->(∀ o,h.get? i=some o->h'.get? i=some o)->St k h'
 item:∀ (A:ag) (k:Nat) (s:Ζ) (get:Nat->Option Α) (x:Α) (Q:Α->Ζ->Prop) (E:Α->Ζ->Prop),St k s.heap->Xo s.heap get->get k=some x ->
  (∀ h' tk,St (k+1) h'->bP i s.heap h'->Q x { s with heap:=h',toks:=tk })->Χ (Ω P w) A (Builtin.SmallTypes.nextOf (.ref i)) Q E s
 fin:∀ (A:ag) (k:Nat) (s:Ζ) (get:Nat->Option Α) (Q:Α->Ζ->Prop) (E:Α->Ζ->Prop),A.handled=none->St k s.heap->Xo s.heap get->get k=none ->
  (∀ h' e,Heap.ExtBut i s.heap h'->(∃ o,h'.get? e=some o/\o.cls = .type "StopIteration")->E (.ref e) { s with heap:=h' })->Χ (Ω P w) A (Builtin.SmallTypes.nextOf (.ref i)) Q E s
section
variable {X:Cx} {pins:List (Addr×Obj)} {σ:St} {H:Hp} {s:Ζ} {h':Heap}
theorem Inv.wC {t':Nat} {ch:List Addr} (I:Inv X pins σ H s) (k:∀ b o,b∉ch->s.heap.get? b=some o->h'.get? b=some o) (hf:∀ b∈ch,X2 X pins H b):Inv X pins σ H { s with heap:=h',toks:=t' }:=by
 have jL:∀ b u,H b=some u->b∉ch:=λb u e z=>by rw [(hf b z).1] at e;cases e
 refine I.step (g':=s.gens) (d':=s.drawn) (ch:=ch) (λb hb=>?_) (λb o _ _ hc e _=>k b o hc e) (λb o _ _ hc e _=>⟨o.slots,k b o hc e⟩) (λ_ _ _ _ n=>n)
  (λb o hc e=>⟨o,k b o hc e⟩) (λ_ _ e=>e) (λ_ _ _ e=>e) (λb ps e=>⟨#[],by rw [e];simp⟩) (λm hm=>?_) (λb u e=>?_) I.bare
 ·obtain ⟨f0,f1,f2,f3,f4,f5⟩:=hf b hb
  exact ⟨f3,f1,f4,f5⟩
 ·obtain ⟨o,es,ep,ho,r⟩:=hm
  exact ⟨o,es,ep,k _ o (λz=>(hf _ z).2.1 rfl) ho,r⟩
 ·refine (I.hok b u e).stay (λc v hc q=>k c v ?_ q) (λ_ q=>q) λ_ _ q=>q
  rcases hc with z | z
  ·rw [z];exact jL b u e
  ·exact jL c _ z
theorem Inv.wD {t':Nat} {ch:List Addr} {T:Addr} {vs:List V} (I:Inv X pins σ H s) (k:∀ b o,b∉ch->s.heap.get? b=some o->h'.get? b=some o) (hf:∀ b∈ch,X2 X pins H b) (hT:s.heap.objs.size<=T)
  (new:YN X.prog X.w (upd H T (.tup vs)) h' T (.tup vs)):Inv X pins σ (upd H T (.tup vs)) { s with heap:=h',toks:=t' }:=by
 have hn:H T=none:=I.hok.fresh hT;have jL:∀ b u,H b=some u->b∉ch:=λb u e z=>by rw [(hf b z).1] at e;cases e
 have nT:∀ b o,s.heap.get? b=some o->b≠T:=λb o e z=>absurd (Ψ e) (by rw [z];exact jn.mpr hT)
 have up:∀ b u,H b=some u->upd H T (.tup vs) b=some u:=λb u e=>by rw [Ye (Yl e hn)];exact e
 refine I.step (g':=s.gens) (d':=s.drawn) (ch:=ch) (λb hb=>?_) (λb o _ _ hc e _=>k b o hc e) (λb o _ _ hc e _=>⟨o.slots,k b o hc e⟩) (λb o _ e n=>by rw [Ye (nT b o e)];exact n)
  (λb o hc e=>⟨o,k b o hc e⟩) (λb xs e=>up b _ e) (λb o u e=>up b _ e) (λb ps e=>⟨#[],by rw [up b _ e];simp⟩) (λm hm=>?_) (λb u e=>?_) I.bare
 ·obtain ⟨f0,f1,f2,f3,f4,f5⟩:=hf b hb
  exact ⟨f3,f1,f4,f5⟩
 ·obtain ⟨o,es,ep,ho,r⟩:=hm
  exact ⟨o,es,ep,k _ o (λz=>(hf _ z).2.1 rfl) ho,r⟩
 ·by_cases hb:b=T
  ·subst hb;rw [Yb] at e;cases e;exact new
  ·rw [Ye hb] at e
   refine (I.hok b u e).stay (λc v hc q=>k c v ?_ q) (λc q=>up c _ q) λc xs q=>up c _ q
   rcases hc with z | z
   ·rw [z];exact jL b u e
   ·exact jL c _ z
end
section
variable {X:Cx} {elts:List Expr} {kk:Nat} {tpos:Pos}
theorem Yhg {J:It} {P:Hp->Prop} {n:Nat} (hgo:∀ i H,P H->i<n->J.go i H) (hstop:∀ H,P H->J.stop n H) {src:List (Option Nat)} {g:TG} {tt:TT} {te:TE} {σ:St} {H1:Hp} {Q:VK} {D:Addr} (Pv:Nat->List V->St->Hp->Prop)
  (h0:Pv 0 [] (Yy src σ) (upd H1 D (.lst []))) (hP:∀ i ys σ' H',Pv i ys σ' H'->P H'/\H' D=some (.lst ys))
  (step:∀ i ys σ' H',i<n->Pv i ys σ' H'->∀ x H3,J.jc i H' x H3->g x σ' H3 λσ2 H4=>tt σ2 H4 λb H5=>if b=true then te σ2 H5 λy H6=>H6 D=some (.lst ys)/\ys.length<sizeLine/\Pv (i+1) (ys++[y]) σ2 (upd H6 D (.lst (ys++[y]))) else Pv (i+1) ys σ2 H5)
  (fin:∀ ys σ' H',Pv n ys σ' H'->Q (.ref D) H') :
  LC src J g tt te σ H1 Q D:=by
 refine ⟨λi m ys σ' H'=>m=n - i/\i<=n/\Pv i ys σ' H',⟨n,by simp,ν _,h0⟩,?_⟩;rintro i m ys σ' H2 ⟨rfl,hi,p⟩;obtain ⟨hp,hD⟩:=hP i ys σ' H2 p;refine ⟨hD,?_⟩;by_cases hlt:i<n
 ·refine .inr ⟨hgo i H2 hp hlt,λys' σ3 H3=>Pv (i+1) ys' σ3 H3,λys' σ3 H3 p'=>⟨n - (i+1),by omega,rfl,hlt,p'⟩,λx H3 y=>step i ys σ' H2 hlt p x H3 y⟩
 ·have e:i=n:=by omega
  subst e;exact .inl ⟨hstop H2 hp,fin ys σ' H2 p⟩
theorem WR {J:It} {P:Hp->Prop} {xs:List V} (hJ:X4 J P xs) {src:List (Option Nat)} {g:TG} {te:TE} {σ:St} {H1:Hp} {Q:VK} {D:Addr} (Pv:Nat->List V->St->Hp->Prop)
  (h0:Pv 0 [] (Yy src σ) (upd H1 D (.lst []))) (hP:∀ i ys σ' H',Pv i ys σ' H'->P H'/\H' D=some (.lst ys))
  (mono:∀ x σ H Q Q',(∀ σ' H',Q σ' H'->Q' σ' H')->g x σ H Q->g x σ H Q')
  (step:∀ i ys σ' H' x,xs[i]?=some x->Pv i ys σ' H'->g x σ' H' λσ2 H4=>te σ2 H4 λy H6=>H6 D=some (.lst ys)/\ys.length<sizeLine/\Pv (i+1) (ys++[y]) σ2 (upd H6 D (.lst (ys++[y]))))
  (fin:∀ ys σ' H',Pv xs.length ys σ' H'->Q (.ref D) H'):LC src J g XF te σ H1 Q D :=
 Hr hJ Pv h0 hP (λi ys σ' H' x hx p=>by
  refine mono _ _ _ _ _ ?_ (step i ys σ' H' x hx p);intro σ2 H4 q;unfold XF;dsimp only;rw [if_pos rfl];exact q) fin
theorem XQ (i:Nat):∀ x σ H Q Q',(∀ σ' H',Q σ' H'->Q' σ' H')->Yv i x σ H Q->Yv i x σ H Q':=λ_ _ _ _ _ h q=>h _ _ q
end
structure Gx where
 P:δ
 w:ι
 K:Θ
 mg:Str->Option Α
 base:Heap
def Cx.gx (X:Cx):Gx:=⟨X.prog,X.w,X.K,X.mg,X.base⟩
def Gx.Raw (g:Gx) (x qual:Str) (st:Stmt) (ps:List Str):Prop:=∃ f fd,fO g.K x qual st f fd/\Xc g.K fd ps []/\g.mg x=some (.ref f)
def Gx.Fn (g:Gx) (k:Nat) (x:Str) (ps:List Str) (sp:Sp):Prop:=∃ f fd,bG g.P g.w g.K g.mg g.base cL k f fd ps sp/\Xc g.K fd ps []/\eQ g.K (.ref f)=true/\g.mg x=some (.ref f)
def Gx.aD (g:Gx) (C:Addr) (m qual:Str) (st:Stmt) (ps:List Str):Prop:=∃ f fd,fO g.K m qual st f fd/\Xc g.K fd ps []/\Meth g.K C m f
def Gx.Me (g:Gx) (k:Nat) (C:Addr) (m:Str) (ps:List Str) (sp:Sp):Prop:=∃ f fd,bG g.P g.w g.K g.mg g.base cL k f fd ps sp/\Xc g.K fd ps []/\Meth g.K C m f
def Gx.bH (g:Gx) (x:Str) (C:Addr) (qual:Str) (st:Stmt) (ps:List Str):Prop:=∃ f fd,fO g.K "__init__" qual st f fd/\Xc g.K fd ps []/\Mk g.K C f/\g.mg x=some (.ref C)
def Gx.Ma (g:Gx) (k:Nat) (x:Str) (C:Addr) (ps:List Str) (sp:Sp):Prop:=∃ f fd,bG g.P g.w g.K g.mg g.base cL k f fd ps sp/\Xc g.K fd ps []/\Mk g.K C f/\g.mg x=some (.ref C)
abbrev Gx.cx (g:Gx) (N:List Str) (qual:Str) (st:Stmt) (f:Addr) (cdv:Α) (A:ag) (outer:List Env) (s:Ζ) (H:Hp) (E:XK):Cx:=(W8 cL g.P g.w g.K g.mg g.base N qual (Yj st) f cdv A outer s H E).iC
def V6 (g:Gx) (k:Nat) (N:List Str) (qual:Str) (st:Stmt) (sp:Sp):Prop:=∀ (f:Addr) (cdv:Α) (A:ag) (outer:List Env) (s:Ζ) (H:Hp) (vs:List V) (Q:VK) (E:XK),aP k (g.cx N qual st f cdv A outer s H E).A->sp vs H Q E ->
 ∃ t,eN (g.cx N qual st f cdv A outer s H E) (YI st) t/\t { nx:=λ_ H'=>Q .non H',rt:=Q } (XN N vs) H
section
variable {g:Gx} {k:Nat} {x qual m:Str} {st:Stmt} {N ps:List Str} {sp:Sp} {C:Addr}
theorem Gx.Raw.fn (R:g.Raw x qual st ps) (S:ak N ps (Yj st)) (len:∀ vs H Q E,sp vs H Q E->vs.length=ps.length) (b:V6 g k N qual st sp):g.Fn (k+1) x ps sp:=by
 obtain ⟨f,fd,F,bd,hm⟩:=R;exact ⟨f,fd,F.ok S len λcdv A outer s H vs Q E hr h=>b f cdv A outer s H vs Q E hr h,bd,F.kp,hm⟩
theorem Gx.aD.me (R:g.aD C m qual st ps) (S:ak N ps (Yj st)) (len:∀ vs H Q E,sp vs H Q E->vs.length=ps.length) (b:V6 g k N qual st sp):g.Me (k+1) C m ps sp:=by
 obtain ⟨f,fd,F,bd,hm⟩:=R;exact ⟨f,fd,F.ok S len λcdv A outer s H vs Q E hr h=>b f cdv A outer s H vs Q E hr h,bd,hm⟩
theorem Gx.bH.ma (R:g.bH x C qual st ps) (S:ak N ps (Yj st)) (len:∀ vs H Q E,sp vs H Q E->vs.length=ps.length) (b:V6 g k N qual st sp):g.Ma (k+1) x C ps sp:=by
 obtain ⟨f,fd,F,bd,hm,hg⟩:=R;exact ⟨f,fd,F.ok S len λcdv A outer s H vs Q E hr h=>b f cdv A outer s H vs Q E hr h,bd,hm,hg⟩
theorem Gx.Fn.mono {j:Nat} (F:g.Fn j x ps sp) (h:j<=k):g.Fn k x ps sp:=by
 obtain ⟨f,fd,F,r⟩:=F;exact ⟨f,fd,F.mono h,r⟩
theorem Gx.Me.mono {j:Nat} (F:g.Me j C m ps sp) (h:j<=k):g.Me k C m ps sp:=by
 obtain ⟨f,fd,F,r⟩:=F;exact ⟨f,fd,F.mono h,r⟩
theorem Gx.Raw.none (R:g.Raw x qual st ps) (no:∀ vs H Q E,¬ sp vs H Q E):g.Fn k x ps sp:=by
 obtain ⟨f,fd,F,bd,hm⟩:=R;exact ⟨f,fd,⟨λvs H Q E h=>absurd h (no vs H Q E),λA outer s H args us vs Q E _ _ _ _ h=>absurd h (no vs H Q E)⟩,bd,F.kp,hm⟩
theorem Gx.aD.none (R:g.aD C m qual st ps) (no:∀ vs H Q E,¬ sp vs H Q E):g.Me k C m ps sp:=by
 obtain ⟨f,fd,F,bd,hm⟩:=R;exact ⟨f,fd,⟨λvs H Q E h=>absurd h (no vs H Q E),λA outer s H args us vs Q E _ _ _ _ h=>absurd h (no vs H Q E)⟩,bd,hm⟩
end
section
variable {g:Gx} {X:Cx} {k j:Nat} {x m:Str} {ps:List Str} {sp:Sp} {C:Addr} {e o:Expr} {es:List Expr} {t:TA} {ta:TE} {p pos apos:Pos}
theorem YA (F:g.Fn j x ps sp) (hr:aP k X.A) (ha:PA X (e::es) t) (hj:j<=k:=by omega) (hX:X.gx=g:=by rfl) (hg:Gl X x:=by rfl) (hdb:(x==("__debug__":Str))=false:=by decide)
  (he:η (e::es) X.env=(false,eval e X.env)::η es X.env:=by rfl) (hpl:(b8 pos (η es X.env)).any (·.1)=false:=by rfl):PE X (.Call (.Name x p) (e::es) [] pos) (VE sp [] E0 t):=by
 subst hX;obtain ⟨f,fd,F,b,kp,hm⟩:=F;exact Gs F (hr.mono hj) hg hm kp b .nil Vh ha hdb he hpl
theorem Xz {pl:Sem Bool} (F:g.Me j C m ps sp) (c:Cls g.K C) (hr:aP k X.A) (ho:PE X o ta) (ha:PA X (e::es) t) (hj:j<=k:=by omega) (hX:X.gx=g:=by rfl)
  (hst:η (e::es) X.env=(false,eval e X.env)::η es X.env:=by rfl) (hpl:(b8 pos (η es X.env)).any (·.1)=false:=by rfl)
  (ht:eval (.Call (.Attribute o m apos) (e::es) [] pos) X.env=(do
   let ov <- eval o X.env
   standAt apos.atName
   let (f,first) <- holding [ov] (i8 ov m pl)
   callWith pos f first (b8 pos (η (e::es) X.env)) (js pos (il [] X.env))):=by rfl):PE X (.Call (.Attribute o m apos) (e::es) [] pos) (Qd C m sp [] E0 ta t):=by
 subst hX;obtain ⟨f,fd,F,b,hm⟩:=F;exact Ygk ho c hm F (hr.mono hj) b .nil Vh ha hst hpl ht
theorem WS (F:g.Ma j x C ps sp) (hr:aP k X.A) (ha:PA X (e::es) t) (hj:j+1<=k:=by omega) (hX:X.gx=g:=by rfl) (hg:Gl X x:=by rfl) (hdb:(x==("__debug__":Str))=false:=by decide)
  (he:η (e::es) X.env=(false,eval e X.env)::η es X.env:=by rfl) (hpl:(b8 pos (η es X.env)).any (·.1)=false:=by rfl):PE X (.Call (.Name x p) (e::es) [] pos) (Ut C sp [] E0 t):=by
 subst hX;obtain ⟨f,fd,F,b,M,hm⟩:=F;exact Ygl M F (hr.mono hj) hg hm b .nil Vh ha hdb he hpl
theorem YU {id:String} {r:List V->Hp->VK->Prop} (hm:g.mg x=none) (hc:XU X (.builtin id) r) (ha:PA X (e::es) t) (hv:eh x=some (.builtin id):=by decide +kernel) (hX:X.gx=g:=by rfl) (hg:Gl X x:=by rfl) (hn:x≠"__name__":=by decide) (hdb:(x==("__debug__":Str))=false:=by decide)
  (he:η (e::es) X.env=(false,eval e X.env)::η es X.env:=by rfl) (hpl:(b8 pos (η es X.env)).any (·.1)=false:=by rfl):PE X (.Call (.Name x p) (e::es) [] pos) (mZ r t):=by
 subst hX;exact YeT hc hg hm hv ha hn hdb he hpl
theorem Qh {T:String} {r:List V->Hp->VK->Prop} (hm:g.mg x=none) (hc:XU X (.type T) r) (ha:PA X (e::es) t) (hv:eh x=some (.type T):=by decide +kernel) (hX:X.gx=g:=by rfl) (hg:Gl X x:=by rfl) (hn:x≠"__name__":=by decide) (hdb:(x==("__debug__":Str))=false:=by decide)
  (he:η (e::es) X.env=(false,eval e X.env)::η es X.env:=by rfl) (hpl:(b8 pos (η es X.env)).any (·.1)=false:=by rfl):PE X (.Call (.Name x p) (e::es) [] pos) (mZ r t):=by
 subst hX;exact YdO hc hg hm hv ha hn hdb he hpl
theorem WT {T:String} (hm:g.mg x=none) (hv:eh x=some (.type T):=by decide +kernel) (hX:X.gx=g:=by rfl) (hg:Gl X x:=by rfl) (hn:x≠"__name__":=by decide) (hdb:(x==("__debug__":Str))=false:=by decide):PE X (.Name x pos) (tC (.ty T)):=by
 subst hX;exact Tc hg hm hv rfl hn hdb
end
def S (l:List Nat):Str:=⟨l.toArray⟩
theorem WK (l:List Nat):(S l).cps.toList=l:=by simp [S]
theorem Xx (l:List Nat):(S l).length=l.length:=by simp [S,kr]
theorem uY (a b:List Nat):S a++S b=S (a++b):=by
 show Str.append (S a) (S b)=S (a++b)
 simp [Str.append,S]
theorem Qi {a b:List Nat} (h:S a=S b):a=b:=by
 have:=congrArg (λx:Str=>x.cps.toList) h;simpa [WK] using this
theorem En (c:Nat):(⟨#[c]⟩:Str)=S [c]:=rfl
theorem YeY (l:List Nat) (i j:Nat):VH (S l) (some (i:Int)) (some (j:Int))=S ((l.drop i).take (j - i)):=by
 unfold VH;rw [WK,Xx,HT.gZ,HT.gZ]
 show S _=S _
 congr 1
 by_cases h:i<=l.length
 ·rw [iP h]
  by_cases h2:j<=l.length
  ·rw [iP h2]
  ·rw [Nat.min_eq_right (by omega)]
   rw [am (by simp),am (by simp;omega)]
 ·have e:min i l.length=l.length:=Nat.min_eq_right (by omega)
  rw [e,bS (Κ l.length),bS (show l.length<=i by omega)];simp
def uZ (s:List Nat):List (List Nat)->List Nat
 | []=>[]
 | [x]=>x
 | x::y::r=>x++s++uZ s (y::r)
theorem Yhh (s:List Nat):∀ ys:List (List Nat),Txt.join (S s) (ys.map S)=S (uZ s ys):=λys=>by
 have e:Txt.join (S s) (ys.map S)=Str.join (S s) (ys.map S):=eq_of_beq (join_plain_closes _ _);rw [e]
 induction ys with
 | nil=>rfl
 | cons x r ih =>
  cases r with
  | nil=>rfl
  | cons y r =>
   have ih':=ih (eq_of_beq (join_plain_closes _ _))
   show S x++S s++Str.join (S s) ((y::r).map S)=_
   rw [ih',uY,uY];rfl
section
variable {K:Θ} {h:Heap} {mg:Str->Option Α} {P:δ} {w:ι} {base:Heap} {f C:Addr} {x qual m:Str} {st:Stmt} {ps:List Str} {oc kV dc pm cd ct:Α} {od an:Option Addr} {sl:Array (Option Α)}
theorem Y7 (X:K.In h) (G:h.Ns az mg) (ps:List Str)
  (a:jS K az x=some (some (.ref f))) (l:K.lookup f=some ⟨oc,od,.func (c8 x x (YV st) (YI st) (Yj st) .none kV dc pm an cd ct),sl⟩) (c:ie K cd x=true) (k:eQ K (.ref f)=true)
  (b:∀ (kV doc pm:Α) (an:Option Addr) (cdv ct:Α) (us:List Α),us.length=ps.length->fN (c8 x x (YV st) (YI st) (Yj st) .none kV doc pm an cdv ct) ⟨us,[]⟩=pure (ps.zip us)) :
  ∀ P w base,(Gx.mk P w K mg base).Raw x x st ps:=λP w base =>
 have F:=Vt (st:=st) l c k
 ⟨f,_,F,F.binds b,jb X G a⟩
theorem XT (X:K.In h) (G:h.Ns az mg) (ps:List Str)
  (a:PySem.W.findIn K (.ref C) m=some (some (.ref f))) (i:PySem.W.isFn K (.ref f)=true) (l:K.lookup f=some ⟨oc,od,.func (c8 m qual (YV st) (YI st) (Yj st) .none kV dc pm an cd ct),sl⟩) (c:ie K cd qual=true) (k:eQ K (.ref f)=true)
  (b:∀ (kV doc pm:Α) (an:Option Addr) (cdv ct:Α) (us:List Α),us.length=ps.length->fN (c8 m qual (YV st) (YI st) (Yj st) .none kV doc pm an cdv ct) ⟨us,[]⟩=pure (ps.zip us)) :
  ∀ P w base,(Gx.mk P w K mg base).aD C m qual st ps:=λP w base =>
 have F:=Vt (st:=st) l c k
 ⟨f,_,F,F.binds b,⟨a,i,k⟩⟩
theorem X0 (X:K.In h) (G:h.Ns az mg) (ps:List Str) (aC:jS K az x=some (some (.ref C))) (mk:PySem.W.makesIn K C=true) (kc:eQ K (.ref C)=true)
  (a:PySem.W.findIn K (.ref C) "__init__"=some (some (.ref f))) (i:PySem.W.isFn K (.ref f)=true) (l:K.lookup f=some ⟨oc,od,.func (c8 "__init__" qual (YV st) (YI st) (Yj st) .none kV dc pm an cd ct),sl⟩) (c:ie K cd qual=true) (k:eQ K (.ref f)=true)
  (b:∀ (kV doc pm:Α) (an:Option Addr) (cdv ct:Α) (us:List Α),us.length=ps.length->fN (c8 "__init__" qual (YV st) (YI st) (Yj st) .none kV doc pm an cdv ct) ⟨us,[]⟩=pure (ps.zip us)) :
  ∀ P w base,(Gx.mk P w K mg base).bH x C qual st ps:=λP w base =>
 have F:=Vt (st:=st) l c k
 ⟨f,_,F,F.binds b,⟨mk,a,i,kc⟩,jb X G aC⟩
end
def Ht (K:Θ) (mg:Str->Option Α) (st:Stmt) (x n:Str):Prop:=∃ f fd,fO K n n st f fd/\(∀ (s:Ζ) (u:Α),BindsTo s fd ⟨[u],[]⟩ [(x,u)])/\mg n=some (.ref f)
theorem Yd0 {K:Θ} {h:Heap} {mg:Str->Option Α} {f:Addr} {x n:Str} {st:Stmt} {oc kV dc pm cd ct:Α} {od an:Option Addr} {sl:Array (Option Α)} (X:K.In h) (G:h.Ns az mg)
  (a:W.nsIn K az n=some (some (.ref f))) (l:K.lookup f=some ⟨oc,od,.func (c8 n n (YV st) (YI st) (Yj st) .none kV dc pm an cd ct),sl⟩) (c:ie K cd n=true) (k:eQ K (.ref f)=true)
  (b:∀ (kV doc pm:Α) (an:Option Addr) (cdv ct:Α) (s:Ζ) (u:Α),BindsTo s (c8 n n (YV st) (YI st) (Yj st) .none kV doc pm an cdv ct) ⟨[u],[]⟩ [(x,u)]):Ht K mg st x n :=
 ⟨f,_,Vt (st:=st) l c k,b kV dc pm an cd ct,W.mg_of X G a⟩
section
variable {X:Cx}
theorem Hu {a:Int} {m:Nat} (h:a.natAbs<2^m):Builtin.Int.intBits a<=m:=by
 unfold Builtin.Int.intBits
 split
 ·omega
 ·rename_i h0
  have h0:a.natAbs≠0:=by simpa using h0
  have:=(Nat.log2_lt h0).mpr h;omega
def u0 (i j:Int):Prop:=∃ m n:Nat,i.natAbs<2^m/\j.natAbs<2^n/\m+n<=100000000
theorem u0.ok {i j:Int} (h:u0 i j):IntMulOk i j:=by
 obtain ⟨m,n,h1,h2,h3⟩:=h;exact IntMulOk.of_le (Hu h1) (Hu h2) (by omega)
def yH (i j:Int):Prop:=0<j/\j.natAbs<2^9000
theorem YX:bM X (di .FloorDiv) (rI yH λi j => .int (i / j)):=mY λi j _ _ _ _ _ hc q=>by
 have h1:(0:Int)<j:=hc.1;have h2:=hc.2;have h3:j.natAbs≠0:=by omega
 exact floordiv_int (by omega) (by rw [Int.fdiv_eq_ediv_of_nonneg i (by omega)];exact q) (.inl (PyProof.noPylong_of_log2 ((Nat.log2_lt h3).mpr h2)))
theorem YS {j:Int} (h:0<j) (h2:j<1073741824) {i:Int}:yH i j:=⟨h,ξ (show j.natAbs<2^30 by omega) (eM (by decide) (by decide))⟩
end
theorem Hv {CX:fC} {P:δ} {w:ι} {K:Θ} {mg:Str->Option Α} {base:Heap} {N:List Str} {qual:Str} {scope:ci} {f:Addr} {cd:Α} {A:ag} {outer:List Env} {s:Ζ} {H:Hp} {E:XK} :
  (W8 CX P w K mg base N qual scope f cd A outer s H E).K=K:=rfl
theorem Hw {X:Cx}:X.iC.K=X.K:=rfl
section
variable {g:TG} {tb:TS} {D:Ends} {σ:St} {H:Hp}
theorem Xq {ta:TA} {n:Nat} (Pv:Nat->St->Hp->Prop) (ha:∀ R:List V->Hp->Prop,R [.int n] H->ta σ H R) (hn:n<2^62) (h0:Pv 0 σ H)
  (hs:∀ i σ H,i<n->Pv i σ H->g (.int i) σ H λσ2 H2=>tb { D with nx:=Pv (i+1),ct:=Pv (i+1),bk:=D.nx } σ2 H2) (hd:∀ σ H,Pv n σ H->D.nx σ H):UL (Uq ta) g tb D σ H:=by
 refine ha _ ⟨n,rfl,by omega,by omega,?_⟩;refine Tw (lo:=0) (n:=n) Pv h0 (λi σ H hi p=>?_) hd;have e:(0:Int)+i=i:=by omega
 rw [e];exact hs i σ H hi p
end
section
variable {X:Cx}
theorem Yaq (hc:X.calm=true:=by rfl):XU X (.builtin "sum") (λxs H Q=>∃ (p:Addr) (ns:List Int),xs=[.ref p]/\au X.K H p (ns.map V.int)/\Q (.int ns.sum) H):=by
 intro pins s σ H xs us Q I r h;obtain ⟨p,ns,rfl,hq,q⟩:=h;obtain ⟨u,rfl,rx⟩:=WE r
 cases rx
 obtain ⟨its,r',pl,hz⟩:=I.list hq;have hi:=YcX r';have hl:=pl.isList;obtain ⟨xs,ex⟩:=hi.allInts.items;rw [ex] at hl
 have e:preSum (numAt xs) xs.size=ns.sum:=by
  have h1:=nums_intItems (xs:=xs);rw [<- ex] at h1
  have h2:=hi.numsOf;rw [preSum_eq,am (by simp)];rw [<- h1];exact congrArg List.sum h2
 refine sum_intListG (I.ok.hd hc) hl λh' tk t' hk=>?_
 rw [e];exact ⟨.int _,H,I.kept (t':=tk) hk,⟨t',rfl⟩,q⟩
end
def Ite (G:Hp->List V->Prop):It :=
 ⟨λi H=>∃ xs x,G H xs/\xs[i]?=some x,λi H v H'=>∃ T,v = .ref T/\H T=none/\∀ xs x,G H xs->xs[i]?=some x->H'=upd H T (.tup [.int i,x]),λi H=>∃ xs,G H xs/\xs.length<=i⟩
theorem Yc6 {P:δ} {w:ι} {K:Θ} {elts:List Expr} {kk:Nat} {pos:Pos} {a e it:Addr} (ne:e≠it) (na:a≠e/\a≠it) :
  Turn P w K (.Tuple elts kk pos) (Ite λH xs=>au K H a xs) [e,it] e (λi h=>(∃ old,IsEnum h e it i old)/\h.IsListIter it a i) where
 mem:=by simp
 obj:=λi h ⟨⟨old,he⟩,hi⟩ c hc=>by
  simp only [Ν,ς,or_false] at hc;rcases hc with rfl | rfl
  ·exact ⟨_,he,λv z=>by cases z⟩
  ·obtain ⟨o,q,_,d⟩:=hi
   exact ⟨o,q,λv z=>by rw [d] at z;cases z⟩
 keep:=λi h h' ⟨⟨old,he⟩,hi⟩ q=>⟨⟨old,q e (by simp) _ he⟩,hi.at λo z=>q it (by simp) o z⟩
 item:=by
  intro X hP hw hK hc i pins s σ H E I hf ⟨⟨old,he⟩,hi⟩ hg;subst hP hw hK;obtain ⟨xs,x,g1,hx⟩:=hg;obtain ⟨its,rv,pl,hz⟩:=I.list g1;obtain ⟨u,hu,ru⟩:=rv.get hx;refine wpAny_pyNext_enum_item he hi pl.isList (x:=u) (by simpa using hu) ne λh1 ho hi1 hT hsz kp=>?_
  refine ⟨_,rfl,?_⟩;refine wpAny_letOwnedTupleGo_enum (s:={ s with heap:=h1,toks:=s.toks+1 }) ho λh2 he2 sb=>?_
  have elt:e<s.heap.objs.size:=Ψ he;have kp2:∀ c o,c∉[e,it]->s.heap.get? c=some o->h2.get? c=some o:=λc o hm z=>by
   have c1:c≠e:=λq=>hm (by simp [q])
   have c2:c≠it:=λq=>hm (by simp [q])
   exact sb.extBut c o c1 (kp c o c1 c2 z)
  have hT2:h2.get? s.heap.objs.size=some { cls := .type "tuple",data := .seq #[.int i s.toks,u] }:=sb.extBut _ _ (Nat.ne_of_gt elt) hT;have I':=I.wD (t':=s.toks+1) (h':=h2) (T:=s.heap.objs.size) (vs:=[.int i,x]) kp2 hf (Κ _) (show YN X.prog X.w _ h2 _ (.tup [.int i,x]) from ⟨by show 2<=sizeLine;decide,[.int i s.toks,u],.cons ⟨_,rfl⟩ (.cons ru .nil),_,hT2,rfl,_,rfl⟩);have fresh:H s.heap.objs.size=none:=I.hok.fresh (Κ _);refine ⟨.ref s.heap.objs.size,_,I',rfl,⟨_,rfl,fresh,λxs' x' g1' hx'=>?_⟩,⟨⟨_,by simpa using he2⟩,hi1.at λo z=>sb.extBut _ _ (ai ne) z⟩,λc hm=>?_⟩
  ·rw [I.kJ g1' g1,hx] at hx'
   cases hx'
   rfl
  ·have h0:=(hf c hm).1
   have clt:c<s.heap.objs.size:=by
    simp only [Ν,ς,or_false] at hm;rcases hm with rfl | rfl
    ·exact elt
    ·obtain ⟨o,q,_⟩:=hi;exact Ψ q
   rw [Ye (ο clt)];exact h0
 done:=by
  intro X hP hw hK hc i pins s σ H E I hf ⟨⟨old,he⟩,hi⟩ hg;subst hP hw hK;obtain ⟨xs,g1,hx⟩:=hg;obtain ⟨its,rv,pl,hz⟩:=I.list g1;have hl:=rv.length;obtain ⟨f0,f1,f2,f3,f4,f5⟩:=hf it (by simp);exact wpAny_pyNext_enum_end (I.ok.hd hc) he hi pl.isList (by simp;omega) λh' eb=>⟨rfl,I.turned (t':=s.toks) (λb o hb z=>eb b o hb z) f0 f1 f3 f4 f5⟩
 self:=λ_ _ _ _ _ ⟨⟨_,he⟩,_⟩ h=>wpAny_pyIter_enum he h
section
variable {X:Cx} {elts:List Expr} {kk:Nat} {tpos:Pos}
def Hx (K:Θ) (ta:TA):TI:=λσ H R=>ta σ H λvs H1=>∃ a xs,vs=[.ref a]/\au K H1 a xs/\R (Ite λH xs=>au K H a xs) H1
theorem YeZ {a:Expr} {ta:TA} {p pos:Pos} (hg:Gl X "enumerate") (hm:X.mg "enumerate"=none) (ha:PA X [a] ta) (hs:η [a] X.env=[(false,eval a X.env)]) :
  PI X (.Tuple elts kk tpos) (.Call (.Name "enumerate" p) [a] [] pos) (Hx X.K ta):=by
 intro pins s σ H R I h;refine Call_ (W3 I hg hm boot_enumerate (cS (aA (ha pos pins s σ H _ I h) λus s1 ⟨vs,H1,I1,r1,q1⟩=>?_) hs rfl));obtain ⟨x,xs,e,hx,q⟩:=q1;subst e;obtain ⟨u,rfl,ru⟩:=WE r1
 cases ru
 obtain ⟨i1,_,pl,_⟩:=I1.list hx;have l1:x<s1.heap.objs.size:=by obtain ⟨_,e,_⟩:=pl.isList;exact Ψ e
 refine call_enumerate_list pl.isList λh' he hi hsz keep=>?_
 refine wpAny_pyIter_enum he ?_;have I2:Inv X pins σ H1 { s1 with heap:=h' }:=I1.kept (t':=s1.toks) keep;have l1':@LT.lt Nat _ x s1.heap.objs.size:=l1;refine ⟨_,[s1.heap.objs.size+1,s1.heap.objs.size],_,_,H1,rfl,I2,Yc6 (by intro z;have z':@Eq Nat _ _:=z;omega) ⟨by intro z;have z':@Eq Nat _ _:=z;omega,by intro z;have z':@Eq Nat _ _:=z;omega⟩,⟨⟨_,he⟩,hi⟩,λc hc=>?_,q⟩;have hle:s1.heap.objs.size<=c:=by
  simp only [Ν,ς,or_false] at hc;rcases hc with e | e<;>(have e':@Eq Nat _ _:=e;show @LE.le Nat _ s1.heap.objs.size c;omega)
 exact I1.iR hle (I1.hok.fresh hle)
end
mutual
inductive Den (K:Θ) (H:Hp):V->Γ->Prop
 | non:Den K H .non .none
 | bl (b:Bool):Den K H (.bl b) (.bool b)
 | int (i:Int):Den K H (.int i) (.int i)
 | str (x:Str) (h:bu x=true):Den K H (.str x) (.str x)
 | lst {a:Addr} {vs:List V} {ds:List Γ}:au K H a vs->bN K H vs ds->Den K H (.ref a) (.list ds)
 | tup {a:Addr} {vs:List V} {ds:List Γ}:aJ K H a vs->bN K H vs ds->Den K H (.ref a) (.tuple ds)
inductive bN (K:Θ) (H:Hp):List V->List Γ->Prop
 | nil:bN K H [] []
 | cons {v:V} {d:Γ} {vs:List V} {ds:List Γ}:Den K H v d->bN K H vs ds->bN K H (v::vs) (d::ds)
end
mutual
theorem Den.keep {K:Θ} {H H':Hp} (e:Yk H H'):∀ {v:V} {d:Γ},Den K H v d->Den K H' v d
 | _,_,.non => .non
 | _,_,.bl b => .bl b
 | _,_,.int i => .int i
 | _,_,.str x h => .str x h
 | _,_,.lst h hs => .lst (e.seq h) (hs.keep e)
 | _,_,.tup h hs => .tup (e.tup h) (hs.keep e)
theorem bN.keep {K:Θ} {H H':Hp} (e:Yk H H'):∀ {vs:List V} {ds:List Γ},bN K H vs ds->bN K H' vs ds
 | _,_,.nil => .nil
 | _,_,.cons h hs => .cons (h.keep e) (hs.keep e)
end
mutual
theorem Den.lay {K:Θ} {H:Hp}:∀ {v:V} {d:Γ},Den K H v d->d.canLay0=true
 | _,_,.non=>rfl
 | _,_,.bl b=>rfl
 | _,_,.int i=>rfl
 | _,_,.str x h=>by simpa [eR] using h
 | _,_,.lst _ hs=>by rw [eR];exact hs.lay
 | _,_,.tup _ hs=>by rw [eR];exact hs.lay
theorem bN.lay {K:Θ} {H:Hp}:∀ {vs:List V} {ds:List Γ},bN K H vs ds->eJ ds=true
 | _,_,.nil=>rfl
 | _,_,.cons h hs=>by rw [eJ,h.lay,hs.lay];rfl
end
section
variable {X:Cx}
mutual
theorem Den.reads {pins:List (Addr×Obj)} {σ:St} {H:Hp} {s:Ζ} (I:Inv X pins σ H s):∀ {v:V} {d:Γ} {u:Α},Den X.K H v d->YB v u->∃ as,Reads s.heap u d as
 | _,_,u,.non,r=>by cases (show u = .none from r);exact ⟨_,.none⟩
 | _,_,u,.bl b,r=>by cases (show u = .bool b from r);exact ⟨_,.bool b⟩
 | _,_,u,.int i,r=>by obtain ⟨t,rfl⟩:=r;exact ⟨_,.int i t⟩
 | _,_,u,.str x h,r=>by obtain ⟨t,rfl⟩:=r;exact ⟨_,.str x t⟩
 | _,_,u,.lst (a:=a) h hs,r=>by
  cases (show u = .ref a from r)
  obtain ⟨its,rv,pl,hz⟩:=I.list h;obtain ⟨as,ra⟩:=hs.reads I rv;obtain ⟨o,e1,e2,n,e3⟩:=pl.isList;exact ⟨_,.list e1 e2 e3 (by simpa using ra)⟩
 | _,_,u,.tup (a:=a) h hs,r=>by
  cases (show u = .ref a from r)
  obtain ⟨its,rv,pl,hz⟩:=I.tuple h;obtain ⟨as,ra⟩:=hs.reads I rv;obtain ⟨o,e1,e2,n,e3⟩:=(show s.heap.IsTuple a its.toArray from pl);exact ⟨_,.tuple e1 e2 e3 (by simpa using ra)⟩
theorem bN.reads {pins:List (Addr×Obj)} {σ:St} {H:Hp} {s:Ζ} (I:Inv X pins σ H s):∀ {vs:List V} {ds:List Γ} {us:List Α},bN X.K H vs ds->Yt vs us->∃ as,ReadsAll s.heap us ds as
 | _,_,us,.nil,r=>by cases r;exact ⟨_,.nil⟩
 | _,_,us,.cons h hs,r=>by
  cases r with
  | cons r rr =>
   obtain ⟨as,ra⟩:=h.reads I r;obtain ⟨bs,rb⟩:=hs.reads I rr;exact ⟨_,.cons ra rb⟩
end
theorem yI (hu:X.A.units+64<ia):bM X (dE .Eq) (λx y H Q=>∃ d e,Den X.K H x d/\Den X.K H y e/\d.depth<=64/\Q (.bl (dk d e)) H):=by
 intro pins s σ H x y v u Q I rx ry h;obtain ⟨d,e,hd,he,dp,q⟩:=h;obtain ⟨as,ra⟩:=hd.reads I rx;obtain ⟨bs,rb⟩:=he.reads I ry;exact SeqAt.rcAt_reads ra rb hd.lay he.lay (by omega) _ _ _ _ ⟨.bl _,H,I,rfl,q⟩
end
theorem YT {α:Type} {l:List α} {i:Nat} {x:α} (h:l[i]?=some x):l.take (i+1)=l.take i++[x]:=by
 obtain ⟨hi,hc⟩:=Η.mp h;rw [List.take_succ_eq_append_getElem hi,hc]
theorem yJ {J:It} {P:Hp->Prop} {xs:List V} (hJ:X4 J P xs) {src:List (Option Nat)} {te:TE} {σ:St} {H1:Hp} {Q:VK} {D:Addr} (ys:List V) (hP:∀ H',Yk H1 H'->P H') (hD:H1 D=none) (hl:ys.length=xs.length) (hlen:xs.length<=100000)
  (step:∀ (i:Nat) x y H',xs[i]?=some x->ys[i]?=some y->Yk H1 H'->∀ R:VK,(∀ aG,Yk H' aG->R y aG)->te (some x::Yy src σ) H' R)
  (fin:∀ H',Yk H1 H'->H' D=some (.lst ys)->Q (.ref D) H'):LC (none::src) J (Yv 0) XF te σ H1 Q D:=by
 have h6:100000<sizeLine:=by decide
 refine WR hJ (λi zs σ' H'=>zs=ys.take i/\(∃ o,σ'=o::Yy src σ)/\Yk H1 H'/\H' D=some (.lst zs)) ⟨by simp,⟨none,rfl⟩,.aj hD _,Yb⟩ (λi zs σ' H' p=>⟨hP _ p.2.2.1,p.2.2.2⟩) (XQ 0) ?_ ?_
 ·rintro i zs σ' H' x hx ⟨rfl,⟨o,rfl⟩,sm,hd⟩
  have hi:=(Η.mp hx).1;have hy:ys[i]?=some (ys[i]'(by omega)):=Ε _
  show te (some x::Yy src σ) H' _
  refine step i x _ H' hx hy sm _ λaG s2=>⟨s2 _ _ hd,?_,(YT hy).symm,⟨_,rfl⟩,.cu hD (sm.trans s2) _,Yb⟩
  rw [aw];omega
 ·rintro zs σ' H' ⟨rfl,_,sm,hd⟩
  rw [<- hl,bz] at hd
  exact fin H' sm hd
theorem UJ (K:Θ) (i j:Nat):∀ x σ H Q Q',(∀ σ' H',Q σ' H'->Q' σ' H')->Vn K 2 (XD (Yv i) (XD (Yv j) VD)) x σ H Q->Vn K 2 (XD (Yv i) (XD (Yv j) VD)) x σ H Q':=by
 rintro x σ H Q Q' h ⟨a,xs,e,sq,l,v,r,e1,v2,r2,e2,e3,q⟩;exact ⟨a,xs,e,sq,l,v,r,e1,v2,r2,e2,e3,h _ _ q⟩
end L2
namespace L2
open PySem PySem.Spec PyProof.Rows
section
variable {a b c d e r:TS} {D:Ends} {σ:St} {H:Hp} (M:St->Hp->Prop) (h1:∀ σ H,M σ H->r D σ H)
include h1
theorem Rw (h2:∀ N:St->Hp->Prop,(∀ σ H,M σ H->N σ H)->a { D with nx:=N } σ H):We a r D σ H:=h2 (r D) h1
theorem Rx (h2:∀ N:St->Hp->Prop,(∀ σ H,M σ H->N σ H)->We a (We b (We c (We d e))) { D with nx:=N } σ H):We a (We b (We c (We d (We e r)))) D σ H:=h2 (r D) h1
end
theorem Ygs (i j:Int):Qz (.int i) (.int j)=true:=rfl
theorem YC (i j:Str):Qz (.str i) (.str j)=true:=rfl
theorem Ygt (xs:List V) (i:Nat):UO xs (some (i:Int)) none=xs.drop i:=by
 unfold UO;rw [HT.gZ,HT.tK];by_cases hi:i<=xs.length
 ·rw [iP hi,am (by rw [ir];omega)]
 ·rw [List.drop_of_length_le (by omega),List.drop_of_length_le (show xs.length<=i by omega)]
  simp
theorem X6 {α:Type} {c:TT} {tb:TS} {D:Ends} {σ:St} {H:Hp} (Pv:α->St->Hp->Prop) (cond:α->Bool) (μ:α->Nat) (a₀:α) (h0:Pv a₀ σ H)
  (hc:∀ a σ H,Pv a σ H->∀ R:Bool->Hp->Prop,(∀ H',Pv a σ H'->R (cond a) H')->c σ H R)
  (hb:∀ a σ H,Pv a σ H->cond a=true->tb { D with nx:=λσ' H'=>∃ a',Pv a' σ' H'/\μ a'<μ a,ct:=λσ' H'=>∃ a',Pv a' σ' H'/\μ a'<μ a,bk:=D.nx } σ H)
  (hd:∀ a σ H,Pv a σ H->cond a=false->D.nx σ H):Ga c tb D σ H:=by
 refine ⟨λm σ H=>∃ a,m=μ a/\Pv a σ H,⟨_,a₀,rfl,h0⟩,?_⟩;rintro m σ H ⟨a,rfl,p⟩;refine hc a σ H p _ λH' p'=>?_
 cases e:cond a with
 | true=>exact ⟨_,λσ' H' ⟨a',q,l⟩=>⟨_,l,a',rfl,q⟩,hb a σ H' p' e⟩
 | false=>exact hd a σ H' p' e
section
variable {X:Cx} {tg:Expr}
def yK (hi:Int) (n:Nat):It:=⟨λi _=>i<n,λi H x H'=>H'=H/\x = .int (hi - i),λi _=>n<=i⟩
theorem Yd3 {P:δ} {w:ι} {K:Θ} {tg:Expr} (it:Addr) (hi:Int) (n:Nat):Turn P w K tg (yK hi n) [it] it (λi h=>IsRangeIter h it (hi+(i:Nat)*(-1)) ((n:Int) - (i:Nat)) (-1)) where
 mem:=by simp
 obj:=λi h st b hb=>by
  have e:b=it:=by simpa using hb
  subst e;exact ⟨_,st,λv z=>by
   have z':Data.fields _=Data.cell v:=z
   cases z'⟩
 keep:=λi h h' st k=>k it (by simp) _ st
 item:=by
  intro X hP hw hK hc i pins s σ H E I hf st hg;subst hP hw hK;obtain ⟨f0,f1,f2,f3,f4,f5⟩:=hf it (by simp);have W:=Walks.range (prog:=X.prog) (w:=X.w) (I.ok.hd hc) it hi (-1) n;refine W.item i s _ _ hg st λv h' tk hv st' kk=>?_
  obtain ⟨t,rfl⟩:=hv;have I1:Inv X pins σ H { s with heap:=h',toks:=tk }:=I.turned (λb o hb e=>kk b o (by simpa using hb) e) f0 f1 f3 f4 f5;refine ⟨_,rfl,U6 (s:={ s with heap:=h',toks:=tk }) (n:="range_iterator") st' rfl rfl (by decide) ⟨.int (hi - i),H,I1,⟨t,?_⟩,⟨rfl,rfl⟩,st',λb hb=>(hf b hb).1⟩⟩;have:hi+(i:Int) * -1=hi - i:=by omega
  rw [this]
 done:=by
  intro X hP hw hK hc i pins s σ H E I hf st hg;subst hP hw hK;obtain ⟨f0,f1,f2,f3,f4,f5⟩:=hf it (by simp);exact wpAny_pyNext_range_end (I.ok.hd hc) st (by have:n<=i:=hg;omega) λh' eb=>⟨rfl,I.turned (t':=s.toks) (λb o hb e=>eb b o hb e) f0 f1 f3 f4 f5⟩
 self:=λ_ _ _ _ _ st h=>wpAny_pyIter_rangeiter st h
theorem Yc7 {a b:Int} (ha : -(2^62)<=a) (ha':a<2^62) (hb : -(2^62)<=b) (hb':b<2^62):Builtin.Range.small a b (-1)=true:=by
 have e:dS a b (-1)=if a>b then a - b else 0:=by unfold dS;simp
 unfold Builtin.Range.small;rw [e];simp only [Builtin.Range.rangeFitsLong,fc,Bool.or_eq_true,decide_eq_true_eq,beq_iff_eq,show ¬ ((-1:Int)>0) by decide,if_false]
 split<;>omega
theorem Ygu {pins:List (Addr×Obj)} {σ:St} {H:Hp} {s:Ζ} {R:It->Hp->Prop} {E:Α->Ζ->Prop} {lo hi:Int} {t u v:Tok} {tk:Nat} (I:Inv X pins σ H s) (h1 : -(2^62)<=lo) (h2:lo<2^62) (h3 : -(2^62)<=hi) (h4:hi<2^62)
  (q:R (yK lo (lo - hi).toNat) H):Χ (Ω X.prog X.w) X.A (pyIter (.ref s.heap.objs.size)) (PIE X pins σ tg R) E { s with heap:=s.heap.push { cls := .type "range",data := .fields #[.int lo t,.int hi u,.int (-1) v] },toks:=tk }:=by
 refine wpAny_pyIter_range (IsRange.new ..) (Yc7 h1 h2 h3 h4) ?_;have I1:Inv X pins σ H { s with heap:=s.heap.push { cls := .type "range",data := .fields #[.int lo t,.int hi u,.int (-1) v] },toks:=tk }:=I.kept λb o e=>Ο _ e
 refine ⟨(s.heap.push { cls := .type "range",data := .fields #[.int lo t,.int hi u,.int (-1) v] }).objs.size,[(s.heap.push { cls := .type "range",data := .fields #[.int lo t,.int hi u,.int (-1) v] }).objs.size],_,_,H,rfl,
  I1.kept (t':=tk) λb o e=>Ο _ e,Yd3 _ lo (lo - hi).toNat,?_,λb hb=>?_,q⟩
 ·have e1:lo+((0:Nat):Int)*(-1)=lo:=by simp
  have e2:(((lo - hi).toNat:Nat):Int) - ((0:Nat):Int)=dS lo hi (-1):=by unfold dS;simp;split<;>omega
  show IsRangeIter _ _ (lo+((0:Nat):Int)*(-1)) ((((lo - hi).toNat:Nat):Int) - ((0:Nat):Int)) (-1)
  rw [e1,e2];exact af _ rfl
 ·have e:b=(s.heap.push { cls := .type "range",data := .fields #[.int lo t,.int hi u,.int (-1) v] }).objs.size:=by simpa using hb
  subst e;exact I1.iR (Κ _) (I1.hok.fresh (Κ _))
def Hy (ta:TA):TI:=λσ H R=>ta σ H λvs H1=>∃ i j:Int,vs=[.int i,.int j,.int (-1)]/\(-(2^62)<=i/\i<2^62 /\ -(2^62)<=j/\j<2^62)/\R (yK i (i - j).toNat) H1
theorem Yd4 {a b c:Expr} {ta:TA} {p pos:Pos} (hg:Gl X "range") (hm:X.mg "range"=none) (ha:PA X [a,b,c] ta) (hs:η [a,b,c] X.env=[(false,eval a X.env),(false,eval b X.env),(false,eval c X.env)]) (hs2:η [b,c] X.env=[(false,eval b X.env),(false,eval c X.env)]) :
  PI X tg (.Call (.Name "range" p) [a,b,c] [] pos) (Hy ta):=by
 intro pins s σ H R I h;refine Call_ (W3 I hg hm boot_range (cS (aA (ha pos pins s σ H _ I h) λus s1 ⟨vs,H1,I1,r1,q1⟩=>?_) (by rw [hs,hs2]) (by rw [hs2];rfl)));obtain ⟨i,j,e,⟨q1,q2,q3,q4⟩,q⟩:=q1;subst e
 cases r1 with
 | cons r rr =>
  cases rr with
  | cons r' rr =>
   cases rr with
   | cons r'' rr =>
    cases rr
    obtain ⟨t,rfl⟩:=r;obtain ⟨t',rfl⟩:=r';obtain ⟨t'',rfl⟩:=r'';exact call_range_3 (by decide) (Ygu I1 q1 q2 q3 q4 q) (.inl (PyProof.noPylong_small (by decide)))
end
theorem Qj {g:TG} {tb:TS} {D:Ends} {σ:St} {H:Hp} {K:Θ} {tl:TE} {xs:List V} (Pv:Addr->Nat->St->Hp->Prop) (ha:∀ R:V->Hp->Prop,(∀ c H1,Pv c 0 σ H1->R (.ref c) H1)->tl σ H R) (hl:∀ c i σ H,i<=xs.length->Pv c i σ H->au K H c xs)
  (hs:∀ c (i:Nat) x σ H,xs[i]?=some x->Pv c i σ H->g x σ H λσ2 H2=>tb { D with nx:=Pv c (i+1),ct:=Pv c (i+1),bk:=D.nx } σ2 H2) (hd:∀ c σ H,Pv c xs.length σ H->D.nx σ H):UL (Wf K tl) g tb D σ H:=by
 refine ha _ λc H1 h0=>⟨c,rfl,⟨xs,hl c 0 σ H1 (ν _) h0⟩,?_⟩
 exact Ge (Pv c) h0 (hl c) (hs c) (hd c)
section
variable {src:List (Option Nat)} {te:TE} {σ:St} {H:Hp} {Q:VK}
theorem Yc8 {ta:TA} {n:Nat} (ys:List V) (ha:∀ R:List V->Hp->Prop,R [.int n] H->ta σ H R) (hl:ys.length=n) (hlen:n<=100000)
  (step:∀ (i:Nat) y H',i<n->ys[i]?=some y->Yk H H'->∀ R:VK,(∀ aG,Yk H' aG->R y aG)->te (some (.int i)::Yy src σ) H' R)
  (fin:∀ D H',H D=none->Yk H H'->H' D=some (.lst ys)->Q (.ref D) H'):cW (none::src) (Uq ta) (Yv 0) XF te σ H Q:=by
 refine ha _ ⟨n,rfl,by omega,by omega,λD hD=>?_⟩;refine yJ (WF (lo:=0) (n:=n) (P:=λ_=>True)) ys (λ_ _=>trivial) hD (by simpa using hl) (by simpa using hlen) (λi x y H' hx hy sm R r=>?_) λH'=>fin D H' hD
 have hi:i<n:=by have:=(Η.mp hx).1;simpa using this
 rw [Λ,aS hi] at hx
 have e:V.int (0+(i:Int))=x:=Δ hx;rw [ke] at e
 subst e;exact step i y H' hi hy sm R r
end
section
variable {X:Cx} {K:Θ}
theorem HB (h:X.K=K:=by rfl):m6 X (uT K):=by subst h;exact YQ
theorem QH (h:X.K=K:=by rfl):m6 X (uU K):=by subst h;exact YD
end
theorem Yar (its:List Α):slicePick its.toArray none none (some (-1))=its.reverse.toArray:=by
 unfold slicePick;have hb:sliceBounds none none (some (-1)) its.toArray.size=((its.length:Int) - 1,-1,-1):=by simp [sliceBounds]
 rw [hb];have hr:jj ((its.length:Int) - 1) (-1) (-1)=(ζ its.length).map λ(k:Nat)=>its.length - 1 - k:=by
  unfold jj;simp only [show ¬ ((-1:Int)>0) by decide,if_false];have hc:(if (its.length:Int) - 1 > -1 then ((its.length:Int) - 1 - -1 - -1 - 1) / - -1 else 0).toNat=its.length:=by
   split
   ·have:((its.length:Int) - 1 - -1 - -1 - 1)=its.length:=by omega
    rw [this,show (- -1:Int)=1 from rfl,gS];omega
   ·omega
  rw [hc]
  apply a9
  intro k hk;have:k<its.length:=bb.mp hk;omega
 simp only [hr]
 congr 1
 rw [g9]
 apply List.ext_getElem?
 intro i;have key:∀ (n:Nat),n<=its.length->(List.filterMap ((λx=>its.toArray[x]?) ∘ λk=>its.length - 1 - k) (ζ n))=its.reverse.take n:=by
  intro n
  induction n with
  | zero=>intro _;simp
  | succ n ih =>
   intro hn;rw [dn,gh,ih (by omega)];have hx:its.reverse[n]?=some (its[its.length - 1 - n]'(by omega)):=by
    rw [List.getElem?_reverse (by omega)];exact Ε _
   rw [YT hx];have hlt:its.length - 1 - n<its.length:=by omega
   simp [hlt]
 rw [key its.length (Κ _)];rw [am (by simp)]
section
variable {X:Cx} {e st:Expr} {te ts:TE} {pos p2:Pos}
def yL (K:Θ) (te ts:TE):TE:=λσ H Q=>te σ H λx H1=>ts σ H1 λy H2=>y = .int (-1)/\∃ a xs,x = .ref a/\au K H2 a xs/\∀ p,H2 p=none->Q (.ref p) (upd H2 p (.lst xs.reverse))
end
section
variable {X:Cx} {pos:Pos}
theorem Yhi:bM X (dE .Is) (λx y H Q=>∃ a b,x = .bl a/\y = .bl b/\Q (.bl (a==b)) H):=by
 intro pins s σ H x y v u Q I rx ry h;obtain ⟨a,b,rfl,rfl,q⟩:=h
 cases rx
 cases ry
 exact is_bool ⟨.bl _,H,I,rfl,q⟩
def HD:V->List V->Hp->VK->Prop:=λx vs H Q=>∃ i,x = .int i/\vs=[]/\Q (.int (Builtin.Int.intBits i:Nat)) H
def HF:V->List V->Hp->VK->Prop:=λx vs H Q=>∃ (z y:Str),x = .str z/\vs=[.str y]/\Q (.int (Txt.find z y)) H
def HJ:TE:=λ_ H Q=>∀ p,H p=none->Q (.ref p) (upd H p (.dK []))
end
def Gx.oK (g:Gx) (x:Str) (xs:List V):Prop:=∃ c,g.mg x=some (.ref c)/\∀ H,aJ g.K H c xs
theorem Ygv {K:Θ} {h:Heap} {mg:Str->Option Α} {x:Str} {i:Addr} {dc:Option Addr} {its:Array Α} {n:Nat} {sl:Array (Option Α)} {xs:List V} (X:K.In h) (G:h.Ns az mg)
  (a:W.nsIn K az x=some (some (.ref i))) (l:K.lookup i=some ⟨.type "tuple",dc,.seq its n,sl⟩) (hz:its.size<=sizeLine) (r:Yt xs its.toList):∀ P w base,(Gx.mk P w K mg base).oK x xs :=
 λP w base=>⟨i,W.mg_of X G a,λH => .inr ⟨_,its,n,l,rfl,rfl,hz,r⟩⟩
section
variable {X:Cx} {g:Gx} {x:Str} {pos:Pos}
def yM (K:Θ) (xs:List V):TE:=λ_ H Q=>∀ c,aJ K H c xs->Q (.ref c) H
theorem Eo {xs:List V} (F:g.oK x xs) (hX:X.gx=g) (hg:Gl X x) (hd:(x==("__debug__":Str))=false):PE X (.Name x pos) (yM g.K xs):=by
 subst hX;obtain ⟨c,e,hc⟩:=F;exact λpins s σ H Q I h=>FP hg e (show YB (.ref c) (.ref c) from rfl) hd pins s σ H Q I (h c (hc H))
end
theorem Xd {c A B:Prop} [Decidable c] (h:¬ c) (hb:B):if c then A else B:=by rw [if_neg h];exact hb
theorem Wg {c A B:Prop} [Decidable c] (h:c) (ha:A):if c then A else B:=by rw [if_pos h];exact ha
section
variable {src:List (Option Nat)} {te:TE} {σ:St} {H:Hp} {Q:VK}
theorem Ygw {tl:TE} {l:List Nat} (ys:List V) (ha:∀ R:V->Hp->Prop,R (.str (S l)) H->tl σ H R) (hl:ys.length=l.length) (hlen:l.length<=100000)
  (step:∀ (i c:Nat) y H',l[i]?=some c->ys[i]?=some y->Yk H H'->∀ R:VK,(∀ aG,Yk H' aG->R y aG)->te (some (.str (S [c]))::Yy src σ) H' R)
  (fin:∀ D H',H D=none->Yk H H'->H' D=some (.lst ys)->Q (.ref D) H'):cW (none::src) (yF tl) (Yv 0) XF te σ H Q :=
 ha _ ⟨S l,rfl,λD hD=>yJ (YdY (S l) (λ_=>True)) ys (λ_ _=>trivial) hD (by rw [WK];simpa using hl) (by rw [WK];simpa using hlen) (λi x y H' hx hy sm R r=>by
  rw [WK,Λ] at hx
  cases e:l[i]? with
  | none=>rw [e] at hx;cases hx
  | some c =>
   rw [e] at hx
   have:V.str ⟨#[c]⟩=x:=Δ hx;subst this;exact step i c y H' e hy sm R r) λH'=>fin D H' hD⟩
end
section
variable {X:Cx}
def Ep (i j:Int):Prop:=u0 i j\/tD i j
theorem XG:bM X (di .Mult) (rI Ep λi j => .int (i*j)):=mY λ_ _ _ _ _ _ _ hc q=>mul_int q (hc.elim (λh=>h.ok) λh=>h.ok)
def HN (K:Θ) (ta:TA):TE:=λσ H Q=>ta σ H λvs H1=>∃ a b xs ys,vs=[.ref a,.ref b]/\aJ K H1 a xs/\aJ K H1 b ys/\xs.length=ys.length /\
 ∀ (l:Addr) (as:List Addr) (H2:Hp),H1 l=none->Yk H1 H2->H2 l=some (.lst (as.map V.ref))->as.length=xs.length ->
  (∀ (j:Nat) a x y,as[j]?=some a->xs[j]?=some x->ys[j]?=some y->H1 a=none/\H2 a=some (.tup [x,y]))->Q (.ref l) H2
theorem Ye0 {i:Nat} {x:Str} {pos':Pos} {pins:List (Addr×Obj)} {σ:St} {D0:Ends} (hN:X.N.Nodup) (hix:X.N[i]?=some x) (hlx:Loc X.env.scope x) (hf:X.fn x=true\/X.env.scope.names.lookup x=some .local) (D C:Addr) (s6:Ζ) (H5:Hp)
  (fi:∀ h',bP C s6.heap h'->Inv X pins σ H5 { s6 with heap:=h' }) (hn:∃ m,s6.heap.Ns C m) (hCn:H5 C=none) (hC:∀ {H':Hp},H' C=none->X2 X pins H' C) (qn:D0.nx (σ.set i (some (.ref D))) H5) :
  compPost (Ω X.prog X.w) X.A X.xe (some λv=>assignAll v ((ib [.Name x pos'] X.env).map (·.2))) (λ_ s'=>Χ (Ω X.prog X.w) X.A (pure PUnit.unit) (λ_ s'=>Χ (Ω X.prog X.w) X.A (pure Flow.next) (SP X pins D0) X.xe s') X.xe s') (.ref D) C (.ok .next) s6:=by
 obtain ⟨m,oC,es,ep,hoC,rC⟩:=hn;have IO:Inv X pins σ H5 s6:=fi s6.heap (Heap.SameBut.refl _ _);have IP:=IO.pinned (fp:=[C]) (λb hb=>by rw [Φ.mp hb];exact hC hCn) (λb hb=>by rw [Φ.mp hb];exact ⟨oC,hoC,λv z=>by (rw [rC.1] at z;cases z)⟩)
 show Χ _ _ (assign (.Name x pos') X.env (.ref D)) _ _ _
 refine aA (Yu hN hix hlx hf _ s6 σ H5 (.ref D) (.ref D) _ IP rfl qn) λ_ s7 ⟨fL,H7,I7,q7⟩=>?_
 obtain ⟨g1,g2,_⟩:=I7.pin (C,oC) (υ _ (υ _ (XM (Φ.mpr rfl) hoC)));refine ⟨m,⟨oC,es,ep,g1,rC⟩,λh' sb=>Ρ (Ρ ⟨fL,H7,?_,q7⟩)⟩;exact I7.dH.wC (t':=s7.toks) (ch:=[C]) (λb o hb e=>sb.extBut b o (λz=>hb (by rw [z];exact Φ.mpr rfl)) e) (λb hb=>by rw [Φ.mp hb];exact hC g2)
theorem HS {i:Nat} {x:Str} {pos' apos:Pos} {elt tg iter:Expr} {ifs:List Expr} {scope:ci} {pos:Pos} {src:List (Option Nat)} {N':List Str} {wi:TI} {g:TG} {tt:TT} {te:TE} (hN:X.N.Nodup) (hix:X.N[i]?=some x) (hlx:Loc X.env.scope x) (hcap:eO X scope src N') (hc:X.calm=true) (hi:PI X tg iter wi)
  (hg:∀ cl C s₀ H₀ fp pn,PG (cB X scope N' cl C s₀ H₀ fp pn) tg g) (ht:∀ cl C s₀ H₀ fp pn,m7 (cB X scope N' cl C s₀ H₀ fp pn) ifs tt) (he:∀ cl C s₀ H₀ fp pn,PE (cB X scope N' cl C s₀ H₀ fp pn) elt te)
  (hfree:∀ x,(x,ρ)∈scope.names->X.env.scope.names.lookup x=some c9\/X.env.scope.names.lookup x=some ρ)
  (hk:scope.kind = .function) (hcell:∀ y∈scope.names,y.2 ≠ .cell) (hnames:∀ y∈scope.names,y.2 = .local->scope.names.lookup y.1=some .local)
  (hs:∀ x,ii iter X.env x=pure x) (hsw:swapsWithSole [.Name x pos'] (.ListComp elt [⟨tg,iter,ifs,0⟩] scope pos) apos.line X.env=pure true) (hf:X.fn x=true\/X.env.scope.names.lookup x=some .local) :
  PS X (.Assign [.Name x pos'] (.ListComp elt [⟨tg,iter,ifs,0⟩] scope pos) apos) (uJ (cW src wi g tt te) (Yv i)):=by
 intro pins s σ H D0 I h;obtain ⟨cl,hcl,a,b⟩:=VG X.env scope λx hx=>I.ok.has x (hfree x hx)
 rw [exec_Assign_arm];refine Ι (wpAny_standAt ?_);rw [hsw];refine Ι (Ρ ?_);rw [if_pos rfl];refine Ι ?_;rw [arm_evalThenUse_ListComp];refine Ι ?_;refine wpAny_comprehension_free (use:=some _) rfl hs hcl hk hnames (aA (hi pins s σ H _ I h) λv s1 h1=>aA h1 λitv s2 h2=>?_);exact Hl (Po:=λv C=>compPost (Ω X.prog X.w) X.A X.xe (some λv=>assignAll v ((ib [.Name x pos'] X.env).map (·.2))) (λ_ s'=>Χ (Ω X.prog X.w) X.A (pure PUnit.unit) (λ_ s'=>Χ (Ω X.prog X.w) X.A (pure Flow.next) (SP X pins D0) X.xe s') X.xe s') v C) (Z:=λ_ _ _ _ _ _ _=>False) hcap hc (hg cl) (ht cl) (he cl) hk hcell a b h2 (Ye0 hN hix hlx hf) λ_ _ _ _ _ _ _ _ z=>z.elim
end
section
variable {g:Gx} {X:Cx} {k j:Nat} {x:Str} {ps:List Str} {sp:Sp} {E:XK} {e:Expr} {es:List Expr} {t:TA} {p pos cpos np:Pos}
def HW (C:Addr) (E:XK) (t:TA):TS:=λ_ σ H=>t σ H λvs H1=>vs.length<=sizeLine/\E (.ref C) none H1
end
def yN (K:Θ) (cv:Α) (sp:Sp) (t:TA) (i:Nat) (ts:TS):TS:=λD σ H=>t σ H λvs H1=>sp (vs++[]) H1 (λv H2=>D.nx (σ.set i (some v)) H2) (λcls _ H2=>W.exmOne K cls cv=some true/\ts D σ H2)
def Ry (a:Addr) (cls:Α) (dc:Option Addr):HO := .ext λh=>∃ o vs,h.get? a=some o/\o.cls=cls/\o.data = .fields vs/\o.dict=dc
def Ends.gone (D:Ends) (j:Nat):Ends:={ nx:=λσ H=>D.nx (σ.set j none) H,rt:=D.rt,bk:=λσ H=>D.bk (σ.set j none) H,ct:=λσ H=>D.ct (σ.set j none) H }
def HX (K:Θ) (cv:Α) (sp:Sp) (t:TA) (i j:Nat) (ts:TS):TS:=λD σ H=>t σ H λvs H1=>sp (vs++[]) H1 (λv H2=>D.nx (σ.set i (some v)) H2) (λcls dc H2=>W.exmOne K cls cv=some true/\∀ a,H2 a=none->ts (D.gone j) (σ.set j (some (.ref a))) (upd H2 a (Ry a cls dc)))
section
variable {X:Cx}
theorem Yhj {g:Gx} {x:Str} {C:Addr} {pos:Pos} (h:g.mg x=some (.ref C)) (hX:X.gx=g:=by rfl) (hg:Gl X x:=by rfl) (hd:(x==("__debug__":Str))=false:=by decide):PE X (.Name x pos) (tC (.ref C)):=by
 subst hX;exact FP hg h rfl hd
end
theorem Xr {K:Θ} {C:Addr} {f:Str} (h:fS K (.ref C) f=some none):Yg K C f:=h
theorem Wq (es:List Expr) (x:Nat) (p:Pos) (es':List Expr) (env:Env):η (.Tuple es x p::es') env=(false,eval (.Tuple es x p) env)::η es' env:=rfl
theorem US (es:List Expr) (p:Pos) (es':List Expr) (env:Env):η (.List es p::es') env=(false,eval (.List es p) env)::η es' env:=rfl
def Rz (A:ag) (s:Ζ) (u v:Α) (b:Bool):Prop:=∀ (prog:δ) (w:ι) (E:Α->Ζ->Prop) (Q:Α->Ζ->Prop),Q (.bool b) s->Χ (Ω prog w) A (richCompare .Lt u v) Q E s
section
open PySem.SeqAt
open PySem.AutoSeq1 (wpAny_loadPart')
open PySem.MeetsSeq PySem.MeetsSeq2 PySem.MeetsSeq3
inductive Two (A:ag) (s:Ζ):List Α->List Α->Bool->Prop
 | nn:Two A s [] [] false
 | nc {v:Α} {vs:List Α}:Two A s [] (v::vs) true
 | cn {v:Α} {vs:List Α}:Two A s (v::vs) [] false
 | eq {u v:Α} {us vs:List Α} {b:Bool}:EqAt A s u v true->Two A s us vs b->Two A s (u::us) (v::vs) b
 | ne {u v:Α} {us vs:List Α} {b:Bool}:EqAt A s u v false->Rz A s u v b->Two A s (u::us) (v::vs) b
variable {X:Cx}
end
end L2
namespace L2
open PySem
section
variable {src:List (Option Nat)} {te:TE} {σ:St} {H:Hp} {Q:VK}
theorem HY {J:It} {P:Hp->Prop} {xs:List V} (hJ:X4 J P xs) {H1:Hp} {D:Addr} (Rl:Nat->V->Hp->Prop) (st:∀ i y H H',Rl i y H->Yk H H'->Rl i y H') (su:∀ i y H zs zs',Rl i y H->H D=some (.lst zs)->Rl i y (upd H D (.lst zs')))
  (hP:∀ H',Yk H1 H'->P H') (hD:H1 D=none) (hlen:xs.length<=100000)
  (step:∀ (i:Nat) x H' zs,xs[i]?=some x->Yk H1 H'->H' D=some (.lst zs)->∀ R:VK,(∀ y aG,Yk H' aG->Rl i y aG->R y aG)->te (some x::Yy src σ) H' R)
  (fin:∀ (ys:List V) H',Yk H1 H'->H' D=some (.lst ys)->ys.length=xs.length->(∀ (j:Nat) y,ys[j]?=some y->Rl j y H')->Q (.ref D) H'):LC (none::src) J (Yv 0) XF te σ H1 Q D:=by
 have h6:100000<sizeLine:=by decide
 refine WR hJ (λi zs σ' H'=>zs.length=i/\(∃ o,σ'=o::Yy src σ)/\Yk H1 H'/\H' D=some (.lst zs)/\∀ (j:Nat) y,zs[j]?=some y->Rl j y H')
  ⟨rfl,⟨none,rfl⟩,.aj hD _,Yb,λj y h=>by simp at h⟩ (λi zs σ' H' ⟨_,_,p1,p2,_⟩=>⟨hP _ p1,p2⟩) (XQ 0) ?_ ?_
 ·rintro i zs σ' H' x hx ⟨hi',⟨o,rfl⟩,sm,hd,hts⟩
  have hi:=(Η.mp hx).1
  show te (some x::Yy src σ) H' _
  refine step i x H' zs hx sm hd _ λy aG s2 hy=>⟨s2 _ _ hd,by omega,by simp [hi'],⟨_,rfl⟩,.cu hD (sm.trans s2) _,Yb,λj z hj=>su _ _ _ _ _ ?_ (s2 _ _ hd)⟩
  rcases Nat.lt_trichotomy j zs.length with h1 | h1 | h1
  ·rw [av h1] at hj
   exact st _ _ _ _ (hts j z hj) s2
  ·have hb:y=z:=by subst h1;simpa using hj
   subst hb;rw [h1,hi'];exact hy
  ·rw [List.getElem?_eq_none (by rw [Μ,aE];omega)] at hj;cases hj
 ·rintro zs σ' H' ⟨hn,_,sm,hd,hts⟩
  exact fin zs H' sm hd hn hts
theorem UT {K:Θ} {tl:TE} {xs:List V} {b:Addr} (Rl:Addr->Nat->V->Hp->Prop) (st:∀ D i y H H',Rl D i y H->Yk H H'->Rl D i y H') (su:∀ D i y H zs zs',Rl D i y H->H D=some (.lst zs)->Rl D i y (upd H D (.lst zs')))
  (ha:∀ R:V->Hp->Prop,R (.ref b) H->tl σ H R) (hS:au K H b xs) (hlen:xs.length<=100000)
  (step:∀ D (i:Nat) x H' zs,xs[i]?=some x->Yk H H'->H' D=some (.lst zs)->∀ R:VK,(∀ y aG,Yk H' aG->Rl D i y aG->R y aG)->te (some x::Yy src σ) H' R)
  (fin:∀ D (ys:List V) H',H D=none->Yk H H'->H' D=some (.lst ys)->ys.length=xs.length->(∀ (j:Nat) y,ys[j]?=some y->Rl D j y H')->Q (.ref D) H'):cW (none::src) (Wf K tl) (Yv 0) XF te σ H Q :=
 ha _ ⟨b,rfl,⟨xs,hS⟩,λD hD=>HY (XO.imp λH' (e:Yk H H')=>e.seq hS) (Rl D) (st D) (su D) (λ_ e=>e) hD hlen (λi x H' zs hx sm hd R r=>step D i x H' zs hx sm hd R r) λys H' sm=>fin D ys H' hD sm⟩
end
mutual
inductive VL (H:Hp):V->Γ->List Addr->Prop
 | int (i:Int):VL H (.int i) (.int i) []
 | str (x:Str) (h:bu x=true):VL H (.str x) (.str x) []
 | lst {a:Addr} {vs:List V} {ds:List Γ} {L:List Addr}:H a=some (.lst vs)->vs.length<=10000->qb H vs ds L->VL H (.ref a) (.list ds) (a::L)
 | tup {a:Addr} {vs:List V} {ds:List Γ} {L:List Addr}:H a=some (.tup vs)->vs.length<=10000->qb H vs ds L->VL H (.ref a) (.tuple ds) L
inductive qb (H:Hp):List V->List Γ->List Addr->Prop
 | nil:qb H [] [] []
 | cons {v:V} {d:Γ} {L:List Addr} {vs:List V} {ds:List Γ} {L':List Addr}:VL H v d L->qb H vs ds L'->qb H (v::vs) (d::ds) (L++L')
end
def m9 (H H':Hp):Prop:=∀ a vs,H a=some (.tup vs)->H' a=some (.tup vs)
theorem Yk.tps {H H':Hp} (s:Yk H H'):m9 H H':=λa vs h=>s a _ h
theorem m9.wF {H:Hp} {p:Addr} {xs ys:List V} (h:H p=some (.lst xs)):m9 H (upd H p (.lst ys)):=λa vs ha=>by
 rw [Ye (Y8 ha h (by intro z;cases z))];exact ha
theorem Ye2 {K:Θ} {tl:TE} {g:TG} {tb:TS} {D:Ends} {σ:St} {H:Hp} {a:Addr} {xs:List V} (Pv:Nat->St->Hp->Prop) (ha:∀ R:V->Hp->Prop,R (.ref a) H->tl σ H R) (h0:Pv 0 σ H) (hl:∀ i σ H,i<=xs.length->Pv i σ H->aJ K H a xs)
  (hs:∀ i x σ H,xs[i]?=some x->Pv i σ H->g x σ H λσ2 H2=>tb { D with nx:=Pv (i+1),ct:=Pv (i+1),bk:=D.nx } σ2 H2) (hd:∀ σ H,Pv xs.length σ H->D.nx σ H):UL (uL K tl) g tb D σ H:=by
 refine ha _ ⟨a,rfl,⟨xs,hl 0 σ H (ν _) h0⟩,?_⟩;exact Tv Pv h0 hl hs hd
end L2
namespace L2
open PySem PySem.Spec PyProof.Rows
def dg (i:Int):List Nat:=(ei (toString i)).cps.toList
theorem Yhk (n:Nat):dg (n:Int)=(Nat.toDigits 10 n).map Char.toNat:=W.KIN.signs_num n
theorem V7 {n k:Nat} (hk:0<k) (h:n<10^k):(dg (n:Int)).length<=k:=by
 rw [Yhk,Β];have:=(Nat.length_repr_le_iff hk).mpr h
 rwa [<- String.length_toList,Nat.toList_repr] at this
end L2
namespace L2
open PySem
section
variable {src:List (Option Nat)} {te:TE} {σ:St} {H:Hp} {Q:VK}
theorem WU {ta:TA} {n:Nat} (I:Addr->Nat->List V->Hp->Prop) (ha:∀ R:List V->Hp->Prop,R [.int n] H->ta σ H R) (hlen:n<=100000)
  (i0:∀ D,H D=none->I D 0 [] (upd H D (.lst []))) (dl:∀ D i zs H',I D i zs H'->zs.length=i/\H' D=some (.lst zs))
  (step:∀ D (i:Nat) zs H',H D=none->i<n->I D i zs H'->∀ R:VK,(∀ y aG,aG D=some (.lst zs)->I D (i+1) (zs++[y]) (upd aG D (.lst (zs++[y])))->R y aG)->te (some (.int i)::Yy src σ) H' R)
  (fin:∀ D zs H',H D=none->I D n zs H'->Q (.ref D) H'):cW (none::src) (Uq ta) (Yv 0) XF te σ H Q:=by
 refine ha _ ⟨n,rfl,by omega,by omega,λD hD=>?_⟩;have h6:100000<sizeLine:=by decide
 refine WR (WF (lo:=0) (n:=n) (P:=λ_=>True)) (λi zs σ' H'=>(∃ o,σ'=o::Yy src σ)/\i<=n/\I D i zs H') ⟨⟨none,rfl⟩,ν _,i0 D hD⟩ (λi zs σ' H' q=>⟨trivial,(dl _ _ _ _ q.2.2).2⟩) (XQ 0) ?_ ?_
 ·rintro i zs σ' H' x hx ⟨⟨o,rfl⟩,_,hI⟩
  have hi:i<n:=by have:=(Η.mp hx).1;simpa using this
  rw [Λ,aS hi] at hx
  have e:V.int (0+(i:Int))=x:=Δ hx;rw [ke] at e
  subst e;have hl:=(dl _ _ _ _ hI).1
  show te (some (.int i)::Yy src σ) H' _
  exact step D i zs H' hD hi hI _ λy aG hd hI'=>⟨hd,by omega,⟨_,rfl⟩,hi,hI'⟩
 ·rintro zs σ' H' ⟨_,_,hI⟩
  exact fin D zs H' hD (by simpa using hI)
end
end L2
namespace L2
open PySem PySem.Spec PyProof.Rows
def Ygx (l:List Str) (v:Str):List Str:=if l.any (·==v) then l else l++[v]
def met (val:Nat->Str) (i:Nat):List Str:=((ζ i).map val).foldl Ygx []
def sg (x:Str) (i:Nat):Str:=⟨#[x.cps.getD i 0]⟩
def Rc (a:Addr) (n:Nat):HO := .ext λh=>∃ (o:Obj) (es:Array (Int×Α)) (ep:Nat) (t:SetTable),h.get? a=some o/\o.ExactSet/\o.data = .set es ep t/\t.fits es.size=true/\es.size=n/\n<scanBound
section
variable {X:Cx} {e lo st:Expr} {te tl ts:TE} {pos p2:Pos}
def Ia (K:Θ) (te tl ts:TE):TE:=λσ H Q=>te σ H λx H1=>tl σ H1 λy H2=>ts σ H2 λz H3 =>
 ∃ (a:Addr) (xs:List V) (k n:Int),x = .ref a/\y = .int k/\z = .int n/\0<=k/\0<n/\au K H3 a xs/\∀ p ys,H3 p=none->(∀ v∈ys,v∈xs)->ys.length<=xs.length->Q (.ref p) (upd H3 p (.lst ys))
end
structure u5 (K:Θ) (B:Addr) (m:Str) (f:Addr):Prop where
 ga:W.specialIn K (.ref B) "__getattribute__"=some (some (.builtin "type.__getattribute__"))
 rd:W.readsIn K B (.type "type")=true
 at_:W.findCls K (.ref B) (.type "type") m=some (.val (.ref f))
 kp:eQ K (.ref f)=true
def Gx.Cf (g:Gx) (k:Nat) (x m:Str) (ps:List Str) (sp:Sp):Prop:=∃ B f fd,bG g.P g.w g.K g.mg g.base cL k f fd ps sp/\Xc g.K fd ps []/\u5 g.K B m f/\g.mg x=some (.ref B)
def Gx.lu (g:Gx) (x m qual:Str) (st:Stmt) (ps:List Str):Prop:=∃ B f fd,fO g.K m qual st f fd/\Xc g.K fd ps []/\u5 g.K B m f/\g.mg x=some (.ref B)
theorem Gx.Cf.mono {g:Gx} {j k:Nat} {x m:Str} {ps:List Str} {sp:Sp} (F:g.Cf j x m ps sp) (h:j<=k):g.Cf k x m ps sp:=by
 obtain ⟨B,f,fd,F,r⟩:=F;exact ⟨B,f,fd,F.mono h,r⟩
section
variable {g:Gx} {X:Cx} {k j:Nat} {x m:Str} {ps:List Str} {sp:Sp} {e:Expr} {es:List Expr} {t:TA} {p pos apos:Pos}
theorem VI {pl:Sem Bool} (F:g.Cf j x m ps sp) (hr:aP k X.A) (ha:PA X (e::es) t) (hj:j<=k:=by omega) (hX:X.gx=g:=by rfl) (hg:Gl X x:=by rfl) (hdb:(x==("__debug__":Str))=false:=by decide)
  (hst:η (e::es) X.env=(false,eval e X.env)::η es X.env:=by rfl) (hpl:(b8 pos (η es X.env)).any (·.1)=false:=by rfl)
  (ht:eval (.Call (.Attribute (.Name x p) m apos) (e::es) [] pos) X.env=(do
   let ov <- eval (.Name x p) X.env
   standAt apos.atName
   let (f,first) <- holding [ov] (i8 ov m pl)
   callWith pos f first (b8 pos (η (e::es) X.env)) (js pos (il [] X.env))):=by rfl):PE X (.Call (.Attribute (.Name x p) m apos) (e::es) [] pos) (VE sp [] E0 t):=by
 subst hX;obtain ⟨B,f,fd,F,b,c,hm⟩:=F;intro pins s σ H Q I h;refine PySem.W.methodCall_KW (pl:=pl) (aA (Yhj (g:=X.gx) (pos:=p) hm rfl hg hdb pins s σ H (λv H1=>v = .ref B/\H1=H) I ⟨rfl,rfl⟩) λu s1 ⟨v,H1,I1,rv,e1,e2⟩=>?_) ht;subst e1 e2;obtain rfl:u=ae B:=rv;refine PySem.W.method_cls I1.bL c.ga (PySem.W.cls_value I1.bL c.rd c.at_ rfl ?_);have I2:=I1.tok (s1.toks+1);refine fF (h₀:=X.base) I.ok.mod.jK c.kp (aA (ha pos pins _ σ H1 _ I2 h) λus s2 ⟨vs,H2,I3,r,q2⟩=>⟨I3.bL,?_⟩) hst hpl;exact V3 (aV:=[]) (ds:=[]) F (hr.mono hj) b .nil Vh I3 r q2
end
def Ib:R2:=λy x H Q=>∃ a o,x = .ref a/\V5 H a y o/\Q (.bl (!o.isSome)) H
def yO:R2:=λy x H Q=>∃ a o,x = .ref a/\V5 H a y o/\Q (.bl o.isSome) H
section
variable {K:Θ} {h:Heap} {mg:Str->Option Α} {P:δ} {w:ι} {base:Heap} {f B:Addr} {x qual m:Str} {st:Stmt} {ps N:List Str} {oc kV dc pm cd ct:Α} {od an:Option Addr} {sl:Array (Option Α)} {g:Gx} {k:Nat} {sp:Sp}
theorem Gx.lu.cf (R:g.lu x m qual st ps) (S:ak N ps (Yj st)) (len:∀ vs H Q E,sp vs H Q E->vs.length=ps.length) (b:V6 g k N qual st sp):g.Cf (k+1) x m ps sp:=by
 obtain ⟨B,f,fd,F,bd,c,hm⟩:=R;exact ⟨B,f,fd,F.ok S len λcdv A outer s H vs Q E hr h=>b f cdv A outer s H vs Q E hr h,bd,c,hm⟩
theorem Ygy (X:K.In h) (G:h.Ns az mg) (ps:List Str) (aB:jS K az x=some (some (.ref B))) (ga:PySem.W.specialIn K (.ref B) "__getattribute__"=some (some (.builtin "type.__getattribute__")))
  (rd:PySem.W.readsIn K B (.type "type")=true) (a:PySem.W.findCls K (.ref B) (.type "type") m=some (.val (.ref f)))
  (l:K.lookup f=some ⟨oc,od,.func (c8 m qual (YV st) (YI st) (Yj st) .none kV dc pm an cd ct),sl⟩) (c:ie K cd qual=true) (k:eQ K (.ref f)=true)
  (b:∀ (kV doc pm:Α) (an:Option Addr) (cdv ct:Α) (us:List Α),us.length=ps.length->fN (c8 m qual (YV st) (YI st) (Yj st) .none kV doc pm an cdv ct) ⟨us,[]⟩=pure (ps.zip us)) :
  ∀ P w base,(Gx.mk P w K mg base).lu x m qual st ps:=λP w base =>
 have F:=Vt (st:=st) l c k
 ⟨B,f,_,F,F.binds b,⟨ga,rd,a,k⟩,jb X G aB⟩
end
end L2
namespace L2
def QI (a b:TE):TE:=λσ H Q=>a σ H Q\/b σ H Q
theorem Ie {X:Cx} {e:PySem.Expr} {a b:TE} (ha:PE X e a) (hb:PE X e b):PE X e (QI a b):=λpins s σ H Q I h=>h.elim (λz=>ha pins s σ H Q I z) (λz=>hb pins s σ H Q I z)
end L2
namespace L2
open PySem PySem.Spec PyProof.Rows
section
variable {g:TG} {tb:TS} {D:Ends} {σ:St} {H:Hp}
theorem Yda {K:Θ} {ta:TA} {a:Addr} {xs:List V} (Pv:Nat->St->Hp->Prop) (ha:∀ R:List V->Hp->Prop,R [.ref a] H->ta σ H R) (h0:Pv 0 σ H) (hl:∀ i σ H,i<=xs.length->Pv i σ H->au K H a xs)
  (hs:∀ i x σ H T,xs[i]?=some x->Pv i σ H->H T=none->g (.ref T) σ (upd H T (.tup [.int (i:Int),x])) λσ2 H2=>tb { D with nx:=Pv (i+1),ct:=Pv (i+1),bk:=D.nx } σ2 H2) (hd:∀ σ H,Pv xs.length σ H->D.nx σ H):UL (Hx K ta) g tb D σ H:=by
 refine ha _ ⟨a,xs,rfl,hl 0 σ H (ν _) h0,?_⟩;refine ⟨λi m σ H=>m=xs.length - i/\i<=xs.length/\Pv i σ H,⟨xs.length,by simp,ν _,h0⟩,?_⟩;rintro i m σ H ⟨rfl,hi,p⟩;have q:=hl i σ H hi p;by_cases hlt:i<xs.length
 ·have hx:xs[i]?=some xs[i]:=Ε hlt
  refine .inr ⟨⟨xs,_,q,hx⟩,Pv (i+1),λσ' H' p'=>⟨xs.length - (i+1),by omega,rfl,hlt,p'⟩,?_⟩;rintro v H' ⟨T,rfl,hT,heq⟩;have e:=heq xs _ q hx;subst e;exact hs i _ σ H T hx p hT
 ·have e:i=xs.length:=by omega
  subst e;exact .inl ⟨⟨xs,q,Κ _⟩,hd σ H p⟩
end
end L2
namespace L2
open PySem
theorem Ye3 {K:Θ} {src:List (Option Nat)} {te tl:TE} {σ:St} {H:Hp} {Q:VK} (G:Addr->List V->Hp->Prop) (ha:∀ R:V->Hp->Prop,(∀ b xs H1,au K H1 b xs->G b xs H1->R (.ref b) H1)->tl σ H R)
  (hb:∀ b xs H1,au K H1 b xs->G b xs H1->xs.length<=100000/\∃ Rl:Addr->Nat->V->Hp->Prop,(∀ D i y H H',Rl D i y H->Yk H H'->Rl D i y H')/\(∀ D i y H zs zs',Rl D i y H->H D=some (.lst zs)->Rl D i y (upd H D (.lst zs'))) /\
   (∀ D (i:Nat) x H' zs,xs[i]?=some x->Yk H1 H'->H' D=some (.lst zs)->∀ R:VK,(∀ y aG,Yk H' aG->Rl D i y aG->R y aG)->te (some x::Yy src σ) H' R) /\
   (∀ D (ys:List V) H',H1 D=none->Yk H1 H'->H' D=some (.lst ys)->ys.length=xs.length->(∀ (j:Nat) y,ys[j]?=some y->Rl D j y H')->Q (.ref D) H')):cW (none::src) (Wf K tl) (Yv 0) XF te σ H Q :=
 ha _ λb xs H1 hS hG=>by
  obtain ⟨hlen,Rl,st,su,step,fin⟩:=hb b xs H1 hS hG;exact ⟨b,rfl,⟨xs,hS⟩,λD hD=>HY (XO.imp λH' (e:Yk H1 H')=>e.seq hS) (Rl D) (st D) (su D) (λ_ e=>e) hD hlen (λi x H' zs hx sm hd R r=>step D i x H' zs hx sm hd R r) λys H' sm=>fin D ys H' hD sm⟩
end L2
namespace L2
open PySem PySem.Spec PyProof.Rows
abbrev fD (f:Addr) (fd:bt):HO := .ext λh=>h.get? f=some { cls := .type "function",data := .func fd }
abbrev jO (c:Addr) (q:Str):HO := .ext λh=>h.CodeRec (.ref c) q
abbrev Qk (c:Addr) (v:V):HO := .ext λh=>∃ u,YB v u/\h.IsCell c (some u)
section
variable {P:δ} {w:ι} {H H':Hp} {h h':Heap}
theorem Ig {f:Addr} {fd:bt} (e:h.get? f=some { cls := .type "function",data := .func fd }):YN P w H h f (fD f fd):=⟨e,⟨_,e⟩,λ_ _ p k=>k _ p⟩
theorem Yhl {c:Addr} {q:Str} (e:h.CodeRec (.ref c) q):YN P w H h c (jO c q):=by
 obtain ⟨c',o,vs,t,e1,e2,e3⟩:=id e
 cases e1
 refine ⟨e,⟨_,e2⟩,λh1 h2 p k=>?_⟩;obtain ⟨c',o,vs,t,e1,e2,e3⟩:=p
 cases e1
 exact ⟨c,o,vs,t,rfl,k _ e2,e3⟩
theorem Ih {c:Addr} {v:V} {u:Α} (r:YB v u) (e:h.IsCell c (some u)):YN P w H h c (Qk c v):=by
 obtain ⟨o,e1,e2⟩:=id e;refine ⟨⟨u,r,e⟩,⟨_,e1⟩,λh1 h2 p k=>?_⟩;obtain ⟨u,r,o,e1,e2⟩:=p;exact ⟨u,r,o,k _ e1,e2⟩
theorem bB.track {c:Addr} {o:HO} (x:bB P w H h) (hn:H c=none) (new:YN P w (upd H c o) h c o):bB P w (upd H c o) h:=λb u e=>by
 by_cases hb:b=c
 ·subst hb;rw [Yb] at e;cases e;exact new
 ·rw [Ye hb] at e
  exact (x b u e).stay (λ_ _ _ q=>q) (λd q=>by rw [Ye (Yl q hn)];exact q) λd xs q=>by rw [Ye (Yl q hn)];exact q
end
def off (H:Hp) (cs:List Addr):Hp:=λb=>if b∈cs then none else H b
def on (H' H:Hp) (cs:List Addr):Hp:=λb=>if b∈cs then H b else H' b
section
variable {H H':Hp} {cs:List Addr} {b:Addr} {o:HO}
theorem yP (h:b∈cs):off H cs b=none:=if_pos h
theorem Uv (h:b∉cs):off H cs b=H b:=if_neg h
theorem Ii (h:b∈cs):on H' H cs b=H b:=if_pos h
theorem WL (h:b∉cs):on H' H cs b=H' b:=if_neg h
theorem Wr (h:H b=none):off H cs b=none:=by unfold off;split<;>first | rfl | exact h
theorem Ql (h:off H cs b=some o):H b=some o/\b∉cs:=by
 by_cases hb:b∈cs
 ·rw [yP hb] at h;cases h
 ·rw [Uv hb] at h;exact ⟨h,hb⟩
end
abbrev Y4:=List (Str×Addr×V)
def Y4.cl (l:Y4):List (Str×Addr):=l.map λp=>(p.1,p.2.1)
def Y4.as (l:Y4):List Addr:=l.map λp=>p.2.1
def Y4.vs (l:Y4):List V:=l.map λp=>p.2.2
def Y4.In (l:Y4) (H:Hp):Prop:=∀ p∈l,H p.2.1=some (Qk p.2.1 p.2.2)
section
variable {l:Y4} {H:Hp}
theorem Ws {c:Addr} (h:c∈l.as):∃ p∈l,p.2.1=c:=by
 obtain ⟨p,hp,e⟩:=ac.mp h;exact ⟨p,hp,e⟩
theorem Wh:∀ {l:Y4} {x:Str} {c:Addr},l.cl.lookup x=some c->∃ p∈l,p.1=x/\p.2.1=c
 | p::l,x,c,h=>by
  rw [Y4.cl,χ,Υ] at h
  cases hb:x==p.1 with
  | true=>rw [hb] at h;exact ⟨p,.head _,(eq_of_beq hb).symm,Δ h⟩
  | false =>
   rw [hb] at h
   obtain ⟨q,h1,h2⟩:=Wh (l:=l) h;exact ⟨q,.tail _ h1,h2⟩
theorem yQ:∀ {l:Y4},(l.map (·.1)).Nodup->∀ p∈l,l.cl.lookup p.1=some p.2.1
 | a::q,nd,p,hp=>by
  rw [χ,aI] at nd
  rw [Y4.cl,χ,Υ];rcases Ν.mp hp with rfl | hp
  ·simp
  ·have:(p.1==a.1)=false:=by
    rw [beq_eq_false_iff_ne];intro z;exact nd.1 (z▸bX hp)
   rw [this];exact yQ nd.2 p hp
theorem Uw {b:Addr} {xs:List V} (hl:l.In H) (h:H b=some (.tup xs)):off H l.as b=some (.tup xs):=by
 rw [Uv λhb=>?_]
 ·exact h
 ·obtain ⟨p,hp,rfl⟩:=Ws hb
  rw [hl p hp] at h;cases h
theorem X8 {b:Addr} {o:HO} (hl:l.In H) (h:H b=some o) (ho:∀ φ,o ≠ .ext φ):off H l.as b=some o:=by
 rw [Uv λhb=>?_]
 ·exact h
 ·obtain ⟨p,hp,rfl⟩:=Ws hb
  rw [hl p hp] at h
  exact ho _ (Δ h).symm
theorem Ygz {P:δ} {w:ι} {h:Heap} (hl:l.In H) (x:bB P w H h):bB P w (off H l.as) h:=λb o e=>by
 obtain ⟨e1,e2⟩:=Ql e;refine (x b o e1).stay (λ_ _ _ q=>q) (λc q=>X8 hl q λφ z=>by cases z) λc xs q=>Uw hl q
end
def qd (P:δ) (w:ι) (K:Θ) (mg:Str->Option Α) (base:Heap) (N:List Str) (qual:Str) (scope:ci) (f:Addr) (cd:Α) (cl:List (Str×Addr)) (A:ag) (outer:List Env) (s:Ζ) (H:Hp):Cx where
 prog:=P
 w:=w
 K:=K
 mg:=mg
 base:=base
 A:=A.deeper (W.envX qual scope s.heap.objs.size f cd cl)
 N:=N
 s₀:=s
 H₀:=H
 env:=W.envX qual scope s.heap.objs.size f cd cl
 outer:=outer
 stack:=W.envX qual scope s.heap.objs.size f cd cl::outer
 ex:=[]
 calm:=true
 fn:=λ_=>false
 pn:=[]
 xe:=λ_ _=>False
structure ig (N ps:List Str) (l:List Str) (sc:ci):Prop where
 kind:sc.kind = .function
 co:sc.isCoroutine=false
 gen:sc.isGenerator=false
 nd:N.Nodup
 pre:N.take ps.length=ps
 suf:N.drop (N.length - l.length)=l
 len:ps.length+l.length<=N.length
 par:∀ x∈ps,sc.names.lookup x=some .local
 fre:∀ x∈l,sc.names.lookup x=some .free
 qe:∀ y∈sc.names,y.2 ≠ .cell
 all:∀ y∈sc.names,y.2 = .free->y.1∈l
def V8 (N:List Str) (vs fv:List V):St:=vs.map some++eW (N.length - vs.length - fv.length) none++fv.map some
section
variable {P:δ} {w:ι} {K:Θ} {mg:Str->Option Α} {base:Heap} {N ps:List Str} {qual name:Str} {scope:ci} {f c:Addr} {A:ag} {outer:List Env} {s:Ζ} {H:Hp} {us:List Α} {vs:List V} {l:Y4} {cd:Α}
theorem QJ:∀ {ps:List Str} {us:List Α} {i:Nat} {x:Str} {u:Α},ps.Nodup->ps[i]?=some x->us[i]?=some u->(ps.zip us).reverse.lookup x=some u:=by
 intro ps us i x u nd h1 h2;have hm:(x,u)∈ps.zip us:=Ξ (show (ps.zip us)[i]?=some (x,u) from db.mpr ⟨h1,h2⟩);have key:∀ (q:List (Str×Α)),(q.map (·.1)).Nodup->(x,u)∈q->q.lookup x=some u:=by
  intro q
  induction q with
  | nil=>intro _ h;cases h
  | cons a q ih =>
   intro nd h;rw [Υ];rw [χ,aI] at nd
   rcases Ν.mp h with rfl | h
   ·simp
   ·have:(x==a.1)=false:=by
     rw [beq_eq_false_iff_ne];intro z;exact nd.1 (z▸bX h)
    rw [this];exact ih nd.2 h
 refine key _ ?_ (iq.mpr hm);rw [List.map_reverse];have hz:∀ (ps:List Str) (us:List Α),ps.Nodup->((ps.zip us).map (·.1)).Nodup/\∀ z∈(ps.zip us).map (·.1),z∈ps:=by
  intro ps
  induction ps with
  | nil=>intro us _;simp
  | cons a ps ih =>
   intro us nd
   cases us with
   | nil=>simp
   | cons u us =>
    have nd':=aI.mp nd;obtain ⟨i1,i2⟩:=ih us nd'.2;rw [List.zip_cons_cons,χ];refine ⟨aI.mpr ⟨λhm=>nd'.1 (i2 _ hm),i1⟩,λz hz=>?_⟩;rcases Ν.mp hz with rfl | hz
    ·exact .head _
    ·exact .tail _ (i2 z hz)
 exact List.pairwise_reverse.mpr ((hz ps us nd).1.imp λh=>ai h)
theorem Ydb {h1:Heap} {tk:Nat} (S:ig N ps (l.map (·.1)) scope) (hnd:l.as.Nodup) (hd:A.handled=none) (e0:fK P w K mg base A outer s H) (hl:vs.length=ps.length) (r:Yt vs us) (cellAt:∀ p∈l,∃ u,YB p.2.2 u/\s.heap.IsCell p.2.1 (some u)) (hoff:bB P w (off H l.as) s.heap)
  (hns:h1.Ns s.heap.objs.size (λx=>(ps.zip us).reverse.lookup x)) (hk:∀ b o,s.heap.get? b=some o->h1.get? b=some o) :
  Inv (qd P w K mg base N qual scope f cd l.cl A outer s (off H l.as)) [] (V8 N vs l.vs) (off H l.as) { s with heap:=h1,toks:=tk }:=by
 have agZ:l.cl.map (·.1)=l.map (·.1):=by rw [Y4.cl,bo];rfl
 have ndN:(l.map (·.1)).Nodup:=by rw [<- S.suf];exact S.nd.sublist (List.drop_sublist _ _)
 have jg:∀ b:Addr,b∉(qd P w K mg base N qual scope f cd l.cl A outer s (off H l.as)).ex:=λb z=>absurd (show b∈([]:List Addr) from z) (by simp)
 have lk:=yQ ndN;have RB:∀ p∈l,∀ q∈l,p.2.1=q.2.1->p=q:=λp hp q hq e=>by
  obtain ⟨i,hi,e1⟩:=List.getElem_of_mem hp;obtain ⟨j,hj,e2⟩:=List.getElem_of_mem hq;have h1:l.as[i]?=some p.2.1:=by rw [Y4.as,Λ,Ε hi,e1];rfl
  have h2:l.as[j]?=some p.2.1:=by rw [Y4.as,Λ,Ε hj,e2,e];rfl
  have hij:i=j:=by
   obtain ⟨g1,g2⟩:=Η.mp h1;obtain ⟨g3,g4⟩:=Η.mp h2;exact (List.getElem_inj hnd).mp (g2.trans g4.symm)
  subst hij;rw [<- e1,<- e2]
 refine ⟨⟨e0.mod,S.kind,rfl,rfl,Κ _,λy z c h1 h2=>?_,λy hy=>?_,λy c h _=>absurd h (by show ¬ (false=true);decide),λ_=>hd,Around.frames_deeper e0.frames,.inr ⟨rfl,rfl⟩,λb z=>absurd z (jg b),λb o e=>⟨(e0.bs b o e).1,Wr (e0.bs b o e).2⟩,e0.gA,λb _ _=>jg b,λb z=>absurd z (jg b),e0.dG,λb hb=>Wr (e0.iZ b hb)⟩,
  rfl,e0.bare,Un.kept hk,⟨_,hns,λi y v h1 h2 h3=>?_⟩,λy c h=>?_,Wr (e0.hok.fresh (Κ _)),λy c h=>?_,λp hp=>absurd (show p∈([]:List (Addr×Obj)) from hp) (by simp),hoff.kept hk,?_⟩
 ·obtain ⟨p,hp,e1,e2⟩:=Wh h1
  obtain ⟨q,hq,e3,e4⟩:=Wh h2;have:=RB p hp q hq (e2.trans e4.symm);rw [<- e1,<- e3,this]
 ·have hy:scope.names.lookup y=some .cell\/scope.names.lookup y=some .free:=hy
  rcases hy with hy | hy
  ·exact absurd rfl (S.qe _ (bj hy))
  ·obtain ⟨p,hp,e⟩:=ac.mp (S.all _ (bj hy) rfl)
   exact ⟨p.2.1,by show l.cl.lookup y=_;rw [<- show p.1=y from e];exact lk p hp⟩
 ·have hvl:l.vs.length=(l.map (·.1)).length:=by rw [Y4.vs,Β,Β]
  have hsl:=S.len;unfold V8 at h2;by_cases hi:i<vs.length
  ·have ha:vs[i]?=some v:=by
    rw [cE,av (by simpa using hi),Λ] at h2
    cases e:vs[i]? with
    | none=>rw [e] at h2;cases h2
    | some a=>rw [e] at h2;cases h2;rfl
   obtain ⟨u,hu,rv⟩:=r.get ha;have hp:ps[i]?=some y:=by
    rw [<- S.pre,List.getElem?_take_of_lt (by omega)];exact h1
   have uQ:ps.Nodup:=by rw [<- S.pre];exact S.nd.sublist (List.take_sublist _ _)
   exact ⟨u,rv,.inl ⟨S.par y (Ξ hp),QJ uQ hp hu⟩⟩
  ·by_cases hi2:i<vs.length+(N.length - vs.length - l.vs.length)
   ·rw [av (by rw [Μ,Β,bn];exact hi2),ax (by rw [Β];omega),fk] at h2
    split at h2<;>cases h2
   ·rw [ax (by rw [Μ,Β,bn];omega),Μ,Β,bn,Λ] at h2
    obtain ⟨v',hv',e⟩:=ε.mp h2
    cases e
    have hv2:(l.map λp=>p.2.2)[i - (vs.length+(N.length - vs.length - l.vs.length))]?=some _:=hv';rw [Λ] at hv2
    obtain ⟨p,hp,rfl⟩:=ε.mp hv2;have hpm:=Ξ hp;have hy:(l.map (·.1))[i - (vs.length+(N.length - vs.length - l.vs.length))]?=some y:=by
     rw [<- S.suf,List.getElem?_drop];rw [show N.length - (l.map (·.1)).length+(i - (vs.length+(N.length - vs.length - l.vs.length)))=i by omega];exact h1
    rw [Λ,hp] at hy
    have ey:p.1=y:=Δ hy;obtain ⟨u,ru,hc⟩:=cellAt p hpm;obtain ⟨o,ho,hd'⟩:=hc;refine ⟨u,ru,.inr ⟨.inr ?_,p.2.1,by show l.cl.lookup y=_;rw [<- ey];exact lk p hpm,o,hk _ _ ho,hd'⟩⟩;exact S.fre y (by rw [<- ey];exact bX hpm)
 ·obtain ⟨p,hp,e1,e2⟩:=Wh (show l.cl.lookup y=some c from h)
  obtain ⟨u,ru,o,ho,hd'⟩:=cellAt p hp;exact ⟨some u,o,by rw [<- e2];exact hk _ _ ho,hd'⟩
 ·obtain ⟨p,hp,e1,e2⟩:=Wh (show l.cl.lookup y=some c from h)
  exact yP (by rw [<- e2];exact bX hp)
 ·unfold V8
  show _=N.length
  have hvl:l.vs.length=(l.map (·.1)).length:=by rw [Y4.vs,Β,Β]
  have hsl:=S.len;rw [Μ,Μ,Β,Β,bn];omega
theorem Ydc {h1:Heap} {tk:Nat} (S:ig N ps (l.map (·.1)) scope) (hnd:l.as.Nodup) (hd:A.handled=none) (e0:fK P w K mg base A outer s H) (hl:vs.length=ps.length) (r:Yt vs us) (hin:l.In H)
  (hns:h1.Ns s.heap.objs.size (λx=>(ps.zip us).reverse.lookup x)) (hk:∀ b o,s.heap.get? b=some o->h1.get? b=some o) :
  Inv (qd P w K mg base N qual scope f cd l.cl A outer s (off H l.as)) [] (V8 N vs l.vs) (off H l.as) { s with heap:=h1,toks:=tk } :=
 Ydb S hnd hd e0 hl r (λp hp=>(e0.hok _ _ (hin p hp)).1) (Ygz hin e0.hok) hns hk
theorem Ij {Q:VK} {v:V} {u:Α} {σ':St} {H':Hp} {s':Ζ} (e0:fK P w K mg base A outer s H) (hin:l.In H) (J:Inv (qd P w K mg base N qual scope f cd l.cl A outer s (off H l.as)) [] σ' H' s') (hlk:∀ p∈l,l.cl.lookup p.1=some p.2.1) (rv:YB v u) (q:(∀ c∈l.as,H' c=none)->Q v (on H' H l.as)) :
  CE outer P w H s Q u s':=by
 have un:=J.base;have nin:∀ {b:Addr},H b=none->b∉l.as:=λhb hm=>by
  obtain ⟨p,hp,rfl⟩:=Ws hm;rw [hin p hp] at hb;cases hb
 have bK:∀ c∈l.as,H' c=none:=λc hc=>by
  obtain ⟨p,hp,rfl⟩:=Ws hc;exact J.bK p.1 p.2.1 (hlk p hp)
 refine ⟨v,on H' H l.as,J.os,J.bare,⟨λb o e n hb hx=>un.keep b o e (Wr n) hb hx,λb o e n hb hx=>un.slot b o e (Wr n) hb hx,λb o e n hx=>?_,λb o e hx=>un.there b o e hx,λb xs e=>?_,λb o u e=>?_,λb ps e=>?_⟩,λb o e=>?_,rv,q bK⟩
 ·rw [WL (nin n)]
  exact un.free b o e (Wr n) hx
 ·have h1:=Uw hin e
  rw [WL (Ql h1).2];exact un.tups b xs h1
 ·have h1:=X8 hin e λφ z=>by cases z
  rw [WL (Ql h1).2];exact un.dB b o u h1
 ·have h1:=X8 hin e λφ z=>by cases z
  rw [WL (Ql h1).2];exact un.dF b ps h1
 ·by_cases hb:b∈l.as
  ·rw [Ii hb] at e
   obtain ⟨p,hp,rfl⟩:=Ws hb;rw [hin p hp] at e
   cases e
   obtain ⟨⟨u,r,oc,ho,hd'⟩,_⟩:=e0.hok _ _ (hin p hp);refine Ih r ⟨oc,un.keep _ _ ho (yP hb) (λhf=>?_) (by intro z;exact absurd (show p.2.1∈([]:List Addr) from z) (by simp)),hd'⟩;have:=e0.iZ _ hf;rw [hin p hp] at this;cases this
  ·rw [WL hb] at e
   refine (J.hok b o e).stay (λ_ _ _ q=>q) (λc q=>?_) λc xs q=>?_
   ·rw [WL λhc=>?_]
    ·exact q
    ·rw [bK c hc] at q;cases q
   ·rw [WL λhc=>?_]
    ·exact q
    ·rw [bK c hc] at q;cases q
end
def qg (H:Hp) (f c:Addr) (fd:bt) (qual:Str) (l:Y4):Prop:=H f=some (fD f fd)/\H c=some (jO c qual)/\l.In H
theorem YgA {P:δ} {w:ι} {K:Θ} {mg:Str->Option Α} {base:Heap} {k:Nat} {f c:Addr} {name qual:Str} {params:Arguments} {body:List Stmt} {scope:ci} {doc pm ctv:Α} {N ps:List Str} {l:Y4} {sp:List V->Hp->VK->Prop}
  (S:ig N ps (l.map (·.1)) scope) (hnd:l.as.Nodup) (len:∀ vs H Q,sp vs H Q->vs.length=ps.length)
  (hbody:∀ (A:ag) (outer:List Env) (s:Ζ) (H:Hp) (vs:List V) (Q:VK),aP k (A.deeper (W.envX qual scope s.heap.objs.size f (.ref c) l.cl))->sp vs H Q ->
   ∃ t,eN (qd P w K mg base N qual scope f (.ref c) l.cl A outer s H) body t/\t { nx:=λ_ H'=>Q .non H',rt:=Q } (V8 N vs l.vs) H) :
  bG P w K mg base cL (k+1) f (W.fnX name qual params body scope l.cl .none .none doc pm none (.ref c) ctv) ps
   (λvs H Q _=>qg H f c (W.fnX name qual params body scope l.cl .none .none doc pm none (.ref c) ctv) qual l/\sp vs (off H l.as) λv H'=>(∀ c∈l.as,H' c=none)->Q v (on H' H l.as)):=by
 refine ⟨λvs H Q E h=>len _ _ _ h.2,λA outer s H args us vs Q E hr e0 hb r hsp=>?_⟩;obtain ⟨⟨hf,hc,hin⟩,hsp⟩:=hsp;have hl:=len _ _ _ hsp;have lim:s.heap.NoLimit:=e0.mod.nolimit.keeps λb o e=>(e0.bs b o e).1
 have hfo:=(e0.hok _ _ hf).1;have hco:s.heap.CodeRec (.ref c) qual:=(e0.hok _ _ hc).1;have hlu:ps.length=us.length:=by rw [<- hl];exact r.length
 refine codeAny_call_function hr.depth hfo rfl S.co S.gen rfl hco (hb _ _ _ _ ?_);refine wpAny_newFunctionEnv S.qe (λy hy=>S.par y.1 (gI hy).1) (λh₁ hns hsb=>?_) S.kind;have hk₁:∀ b o,s.heap.get? b=some o->h₁.get? b=some o:=λb o e=>hsb.extBut b o (ο (Ψ e)) (Ο _ e)
 refine ⟨lim.keeps hk₁,codeAny_func ?_⟩;obtain ⟨t,ht,hq⟩:=hbody A outer s (off H l.as) vs _ (hr.deeper _) hsp;have I:=Ydc (cd := .ref c) (qual:=qual) (f:=f) (tk:=s.toks+(ps.zip us).length) S hnd hr.hd e0 hl r hin hns hk₁;have lk:=yQ (l:=l) (by rw [<- S.suf];exact S.nd.sublist (List.drop_sublist _ _));refine a5 (ht [] _ _ _ _ I hq) (λfl s' hs=>?_) λe s' hs=>hs.elim
 cases fl with
 | ret u =>
  obtain ⟨v,σ',H',J,rv,q⟩:=hs;exact Ij e0 hin J lk rv q
 | next =>
  obtain ⟨σ',H',J,q⟩:=hs;exact Ij (v:=V.non) (u:=ic) e0 hin J lk rfl q
 | brk =>
  obtain ⟨_,_,_,q⟩:=hs;exact b9 q
 | cont =>
  obtain ⟨_,_,_,q⟩:=hs;exact b9 q
def Bm (mg:Str->Option Α) (base:Heap):Prop:=∃ bm ob,mg "__builtins__"=some (.ref bm)/\bm≠gm/\bm≠az/\base.get? bm=some ob/\ob.cls = .type "module"/\ob.dict=some gm/\ob.data = .plain
section
variable {X:Cx} {pins:List (Addr×Obj)} {σ:St} {H:Hp} {s:Ζ}
theorem Inv.Er {P c':Addr} {ps more:Array Α} {h':Heap} {tk:Nat} {fd:bt} {qual:Str} (I:Inv X pins σ H s) (hP:H P=some (.bD ps)) (hx:Heap.ExtBut P s.heap h') (hge:s.heap.objs.size<=c') (hlt:c'<h'.objs.size) (hrec:h'.CodeRec (.ref c') qual) (htb:h'.get? P=some (W.tabObj (ps++more))) :
  Inv X pins σ (upd (upd (upd H P (.bD (ps++more))) c' (jO c' qual)) h'.objs.size (fD h'.objs.size fd)) { s with heap:=h'.push { cls := .type "function",data := .func fd },toks:=tk }:=by
 have hPl:P<s.heap.objs.size:=I.hok.lt hP;have hcf:s.heap.objs.size<=h'.objs.size:=Τ hge (ge hlt);have qj:∀ {b:Addr},b<s.heap.objs.size->b≠c'/\b≠h'.objs.size:=λe=>⟨ο (ξ e hge),ο (ξ e hcf)⟩
 have iG:∀ {b:Addr} {o:HO},H b=some o->b≠c'/\b≠h'.objs.size:=λe=>qj (I.hok.lt e)
 have push:∀ b o,h'.get? b=some o->(h'.push { cls := .type "function",data := .func fd }).get? b=some o:=λb o e=>Ο _ e
 have hget:∀ {b:Addr},b≠P->b≠c'->b≠h'.objs.size->(upd (upd (upd H P (.bD (ps++more))) c' (jO c' qual)) h'.objs.size (fD h'.objs.size fd)) b=H b:=λh1 h2 h3=>by rw [Ye h3,Ye h2,Ye h1]
 have Ik:(upd (upd (upd H P (.bD (ps++more))) c' (jO c' qual)) h'.objs.size (fD h'.objs.size fd)) P=some (.bD (ps++more)):=by rw [Ye (qj hPl).2,Ye (qj hPl).1,Yb]
 refine I.un ⟨λb o e n _ _=>push b o (hx b o (λz=>by rw [z,hP] at n;cases n) e),λb o e n _ _=>⟨o.slots,push b o (hx b o (λz=>by rw [z,hP] at n;cases n) e)⟩,λb o e n _=>?_,λb o e _=>?_,λb xs e=>?_,λb o u e=>?_,λb qs e=>?_⟩ λb o e=>?_
 ·have:=Ψ e
  rw [hget (λz=>by rw [z,hP] at n;cases n) (qj this).1 (qj this).2];exact n
 ·by_cases hb:b=P
  ·subst hb;exact ⟨_,push _ _ htb⟩
  ·exact ⟨o,push b o (hx b o hb e)⟩
 ·rw [hget (Y8 e hP (by intro z;cases z)) (iG e).1 (iG e).2];exact e
 ·rw [hget (Y8 e hP (by intro z;cases z)) (iG e).1 (iG e).2];exact e
 ·by_cases hb:b=P
  ·subst hb
   rw [hP] at e;cases e
   exact ⟨more,Ik⟩
  ·exact ⟨#[],by rw [hget hb (iG e).1 (iG e).2,e];simp⟩
 ·by_cases h3:b=h'.objs.size
  ·subst h3
   rw [Yb] at e;cases e
   exact Ig (af _ rfl)
  ·by_cases h2:b=c'
   ·subst h2
    rw [Ye h3,Yb] at e;cases e
    exact Yhl (hrec.push _)
   ·by_cases h1:b=P
    ·subst h1
     rw [Ik] at e;cases e
     exact push _ _ htb
    ·rw [hget h1 h2 h3] at e
     refine (I.hok b o e).stay (λc u hc q=>push c u (hx c u ?_ q)) (λc q=>?_) λc xs q=>?_
     ·rcases hc with rfl | hc
      ·exact h1
      ·exact Y8 hc hP (by intro z;cases z)
     ·rw [hget (Y8 q hP (by intro z;cases z)) (iG q).1 (iG q).2];exact q
     ·rw [hget (Y8 q hP (by intro z;cases z)) (iG q).1 (iG q).2];exact q
end
def Made (P:Addr) (pos:Pos) (q:Str) (mk:Addr->bt->Prop) (H:Hp) (Q:VK):Prop:=∃ ps,H P=some (.bD ps)/\TriplesOk ps.toList /\
 ((codeAmong pos ps.toList=none/\∀ f c fd,H f=none->H c=none->f≠c->mk c fd->Q (.ref f) (upd (upd (upd H P (.bD (ps++#[rawInt pos.line,rawInt pos.col,.ref c]))) c (jO c q)) f (fD f fd))) \/
  ∃ c,codeAmong pos ps.toList=some (.ref c)/\∀ f fd,H f=none->mk c fd->Q (.ref f) (upd H f (fD f fd)))
section
variable {X:Cx} {c P:Addr} {name qual:Str} {params:Arguments} {body:List Stmt} {eb:Expr} {scope:ci} {clos:List (Str×Addr)} {pos:Pos} {ln:Nat}
abbrev yR (name qual:Str) (params:Arguments) (body:List Stmt) (scope:ci) (clos:List (Str×Addr)) (c:Addr) (fd:bt):Prop:=∃ doc pm ctv,fd=W.fnX name qual params body scope clos .none .none doc pm none (.ref c) ctv
theorem Yd9 {pins:List (Addr×Obj)} {σ:St} {H:Hp} {s:Ζ} {ps:Array Α} (I:Inv X pins σ H s) (bm:Bm X.mg X.base) (hP:H P=some (.bD ps)):az≠P/\s.heap.BuiltinsAt X.mg P:=by
 refine ⟨λz=>?_,?_⟩
 ·obtain ⟨o,es,ep,e,_⟩:=I.mod.glob
  have:=(I.bs _ _ e).2;rw [z,hP] at this;cases this
 ·obtain ⟨b,ob,h1,h2,h3,h4,h5⟩:=bm
  refine ⟨b,ob,h1,h2,h3,λz=>?_,(I.bs _ _ h4).1,h5⟩;have:=(I.bs _ _ h4).2;rw [z,hP] at this;cases this
theorem Es {pins:List (Addr×Obj)} {σ:St} {H:Hp} {s:Ζ} {Q:VK} (bm:Bm X.mg X.base) (C:i5 X.base c P) (hcode:X.env.code = .ref c) (hcl:closureFor scope X.env=pure clos) (I:Inv X pins σ H s) (h:Made P pos qual (yR name qual params body scope clos) H Q) :
  Χ (Ω X.prog X.w) X.A (makeFunction name qual params (.stmts body) scope X.env [] [] [] pos ln) (EP X pins σ Q) X.xe s:=by
 obtain ⟨ps,hP,ht,h⟩:=h;obtain ⟨hgP,hb⟩:=Yd9 I bm hP;have Il:s.heap.get? P=some (W.tabObj ps):=I.hok P _ hP;rcases h with ⟨hnf,h⟩ | ⟨c',hf,h⟩
 ·refine W.makeFunction_K (mg:=X.mg) hcl I.ok.glob (I.mod.glob.keeps I.bk) hcode (C.keeps I.bk) Il ht hnf hgP hb λc' ctv doc h' tk hx hge hlt hrec htb=>?_
  refine ⟨.ref h'.objs.size,_,I.Er hP hx hge hlt hrec htb,rfl,h _ _ _ (I.hok.fresh (Τ hge (ge hlt))) (I.hok.fresh hge) (Nat.ne_of_gt hlt) ⟨_,_,_,rfl⟩⟩
 ·refine W.makeFunction_hit (mg:=X.mg) hcl I.ok.glob (I.mod.glob.keeps I.bk) hcode (C.keeps I.bk) Il ht hf hb λctv doc h' tk hk hsz=>?_
  exact ⟨.ref h'.objs.size,_,I.laid (λb o e=>Ο _ (hk b o e)) hsz (Ig (af _ rfl)),rfl,h _ _ (I.hok.fresh hsz) ⟨_,_,_,rfl⟩⟩
def RD (i:Nat) (P:Addr) (pos:Pos) (q:Str) (mk:Addr->bt->Prop):TS:=λD σ H=>Made P pos q mk H λv H'=>D.nx (σ.set i (some v)) H'
theorem Yhm (i:Nat) (bm:Bm X.mg X.base) (C:i5 X.base c P) (hcode:X.env.code = .ref c) (hcl:closureFor scope X.env=pure clos) (hN:X.N.Nodup) (hi:X.N[i]?=some name) (hx:Loc X.env.scope name) (hq:qualnameIn X.env name name=qual)
  (hd0:params.defaults=[]) (hk0:params.kw_defaults=[]) (ha:annTrees params none X.env=[]) (hf:X.fn name=true\/X.env.scope.names.lookup name=some .local) :
  PS X (.FunctionDef name params body [] none [] scope none name pos) (RD i P pos qual (yR name qual params body scope clos)):=by
 intro pins s σ H D I h;refine W.nestDef_K hd0 hk0 ha ?_;rw [hq];refine aA (Es bm C hcode hcl I h) λv s1 ⟨x,H1,I1,r,q⟩=>?_
 exact VB I1 hN hi hx r (λs2 I2=>⟨_,H1,I2,q⟩) hf
end
def lay (H:Hp):Y4->Hp
 | []=>H
 | p::l=>upd (lay H l) p.2.1 (Qk p.2.1 p.2.2)
theorem Vu {H:Hp} {b:Addr}:∀ {l:Y4},b∉l.as->lay H l b=H b
 | [],_=>rfl
 | p::l,h=>by
  have h1:b≠p.2.1:=λz=>h (by rw [z];exact .head _)
  rw [lay,Ye h1];exact Vu λz=>h (.tail _ z)
theorem Im {H:Hp}:∀ {l:Y4},l.as.Nodup->l.In (lay H l)
 | [],_=>λp hp=>by cases hp
 | q::l,nd=>λp hp=>by
  have nd':=aI.mp nd;rcases Ν.mp hp with rfl | hp
  ·exact Yb
  ·have hne:p.2.1≠q.2.1:=λz=>nd'.1 (by
    have:p.2.1∈Y4.as l:=bX (f:=λp:Str×Addr×V=>p.2.1) hp;rw [z] at this
    exact this)
   rw [lay,Ye hne];exact Im nd'.2 p hp
def QK (X:Cx) (σ:St) (l:Y4):Prop:=l.as.Nodup/\∀ p∈l,∃ i:Nat,X.N[i]?=some p.1/\σ[i]?=some (some p.2.2)/\X.env.kindOf p.1=some .cell/\X.env.cells.lookup p.1=some p.2.1
theorem Io {X:Cx} {pins:List (Addr×Obj)} {σ:St} {H:Hp} {s:Ζ} (I:Inv X pins σ H s):∀ {l:Y4},QK X σ l->bB X.prog X.w (lay H l) s.heap
 | [],_=>I.hok
 | p::l,h=>by
  have nd':=aI.mp h.1;have ih:=Io I (l:=l) ⟨nd'.2,λq hq=>h.2 q (.tail _ hq)⟩;obtain ⟨i,h1,h2,h3,h4⟩:=h.2 p (.head _);obtain ⟨m,hn,hl⟩:=I.loc;obtain ⟨u,r,lk⟩:=hl i p.1 p.2.2 h1 h2 (.inr (.inl h3));rcases lk with ⟨k,_⟩ | ⟨_,c,hc,hcell⟩
  ·rw [h3] at k;cases k
  ·rw [h4] at hc
   cases hc
   refine ih.track ?_ (Ih r hcell);rw [Vu nd'.1];exact I.bK p.1 p.2.1 h4
def PR (X:Cx) (b:List Stmt) (t:(St->V->Hp->Prop)->St->Hp->Prop):Prop:=∀ (pins:List (Addr×Obj)) (s:Ζ) (σ:St) (H:Hp) (R:St->V->Hp->Prop),Inv X pins σ H s->t R σ H ->
 Χ (Ω X.prog X.w) X.A (execs b X.env) (λfl s'=>∃ u,fl = .ret u/\∃ v σ' H',Inv X pins σ' H' s'/\YB v u/\R σ' v H') X.xe s
section
variable {X:Cx} {st:Stmt} {YG:List Stmt} {t:TS} {u:(St->V->Hp->Prop)->St->Hp->Prop} {e:Expr} {te:TE} {pos:Pos}
def RG (te:TE):(St->V->Hp->Prop)->St->Hp->Prop:=λR σ H=>te σ H λv H'=>R σ v H'
theorem Yhn (he:PE X e te):PR X [.Return (some e) pos] (RG te):=by
 intro pins s σ H R I h;refine ip (wpAny_Return_some (aA (he pins s σ H _ I h) λv s1 ⟨x,H1,I1,r1,q1⟩=>⟨v,rfl,x,σ,H1,I1,r1,q1⟩))
def RJ (t:TS) (u:(St->V->Hp->Prop)->St->Hp->Prop):(St->V->Hp->Prop)->St->Hp->Prop:=λR σ H=>t { nx:=u R,rt:=λ_ _=>False } σ H
theorem YgB (h1:PS X st t) (h2:PR X YG u):PR X (st::YG) (RJ t u):=by
 intro pins s σ H R I h;refine ip (aA (h1 pins s σ H _ I h) λf s1 q=>?_)
 cases f with
 | next =>
  obtain ⟨σ',H',I',q⟩:=q;exact h2 pins s1 σ' H' R I' q
 | ret v=>obtain ⟨_,_,_,_,_,q⟩:=q;exact q.elim
 | brk=>obtain ⟨_,_,_,q⟩:=q;exact q.elim
 | cont=>obtain ⟨_,_,_,q⟩:=q;exact q.elim
end
theorem fO.okC {P:δ} {w:ι} {K:Θ} {mg:Str->Option Α} {base:Heap} {x qual:Str} {st:Stmt} {f:Addr} {fd:bt} {N ps:List Str} {k:Nat} {sp:Sp} (F:fO K x qual st f fd) (S:ak N ps (Yj st)) (len:∀ vs H Q E,sp vs H Q E->vs.length=ps.length)
  (hbody:∀ (cdv:Α) (A:ag) (outer:List Env) (s:Ζ) (H:Hp) (vs:List V) (Q:VK) (E:XK),fd.code=cdv->aP k (A.deeper (iF qual (Yj st) s.heap.objs.size f cdv))->sp vs H Q E ->
   ∃ t,PR (W8 cL P w K mg base N qual (Yj st) f cdv A outer s H E).iC (YI st) t /\
    t (λσ v H'=>∃ l,QK (W8 cL P w K mg base N qual (Yj st) f cdv A outer s H E).iC σ l/\((∀ c∈l.as,H' c=none)->Q v (lay H' l))) (XN N vs) H):bG P w K mg base cL (k+1) f fd ps sp:=by
 obtain ⟨oc,od,kV,doc,pm,an,cdv,ct,osl,rfl,lk,hcd⟩:=F.ex;refine ⟨len,λA outer s H args us vs Q E hr e0 hb r hsp=>?_⟩;have hl:=len _ _ _ _ hsp;have KX:K.In s.heap:=e0.mod.jK.keeps λb o e=>(e0.bs b o e).1
 have lim:s.heap.NoLimit:=e0.mod.nolimit.keeps λb o e=>(e0.bs b o e).1
 have hkind:∀ y∈ps.zip us,(Yj st).names.lookup y.1=some .local\/((Yj st).names.lookup y.1=some .cell/\((ef (s.heap.objs.size+1) (Yj st).names []).lookup y.1).isSome=true):=λ⟨n,v⟩ hy=>by
  rcases S.par n (gI hy).1 with q | q
  ·exact .inl q
  ·exact .inr ⟨q,PySem.W.cellsFrom_some _ _ _ (.inl q)⟩
 refine codeAny_call_function hr.depth (KX _ _ lk) rfl S.co S.gen rfl (PySem.W.codeRec_of KX hcd) (hb _ _ _ _ ?_);refine wpAny_newFunctionEnv_cells S.kind hkind λenv he s1 xx=>?_
 subst he;refine ⟨lim.keeps xx.toInCall.keep,codeAny_func ?_⟩;obtain ⟨t,ht,hq⟩:=hbody cdv A outer s H vs Q E rfl (hr.deeper _) hsp;have I:Inv (W8 cL P w K mg base N qual (Yj st) f cdv A outer s H E).iC [] (XN N vs) H s1:=(Gz (CX:=cL) (E:=E) S hr.hd e0 hl r xx).wish _;refine a5 (ht [] s1 (XN N vs) H _ I hq) (λfl s' hs=>?_) λe s' hs=>hs.elim
 obtain ⟨u,rfl,v,σ',H',J,rv,l,hc,q⟩:=hs;have un:=J.base;have hab:∀ b∈l.as,s.heap.objs.size<=b:=λb hb=>by
  obtain ⟨p,hp,rfl⟩:=Ws hb;obtain ⟨i,h1,h2,h3,h4⟩:=hc.2 p hp;exact J.ok.cab p.1 p.2.1 rfl h4
 have hno:∀ b∈l.as,H' b=none:=λb hb=>by
  obtain ⟨p,hp,rfl⟩:=Ws hb;obtain ⟨i,h1,h2,h3,h4⟩:=hc.2 p hp;exact J.bK p.1 p.2.1 h4
 have keep:∀ {b:Addr} {o:HO},H' b=some o->lay H' l b=some o:=λ{b o} e=>by
  rw [Vu λhb=>?_]
  ·exact e
  ·rw [hno b hb] at e;cases e
 refine ⟨v,lay H' l,J.os,J.bare,⟨un.keep,un.slot,λb o e n hx=>?_,un.there,λb xs e=>keep (un.tups b xs e),λb o u e=>keep (un.dB b o u e),λb qs e=>?_⟩,Io J hc,rv,q hno⟩
 ·rw [Vu λhb=>?_]
  ·exact un.free b o e n hx
  ·have h1:=hab b hb
   have h2:=Ψ (show s.heap.get? b=some o from e);exact absurd (ξ h2 h1) (cz _)
 ·obtain ⟨more,e'⟩:=un.dF b qs e
  exact ⟨more,keep e'⟩
def Yho (g:Gx) (k i:Nat) (t:TA):TE:=λσ H Q=>∃ f fd ps sp,σ[i]?=some (some (.ref f))/\bG g.P g.w g.K g.mg g.base cL k f fd ps sp/\(∀ us:List Α,us.length=ps.length->fN fd ⟨us,[]⟩=pure (ps.zip us))/\H f=some (fD f fd)/\t σ H λvs H1=>H1 f=some (fD f fd)/\sp vs H1 Q E0
section
variable {X:Cx} {g:Gx} {k j i:Nat} {x:Str} {p pos:Pos} {e:Expr} {es:List Expr} {t:TA}
theorem Ip {pins:List (Addr×Obj)} {σ:St} {H:Hp} {s:Ζ} {f:Addr} {fd:bt} (I:Inv X pins σ H s) (h:H f=some (fD f fd)):W.FnAt f s.heap:=⟨_,_,_,_,(I.hok _ _ h).1⟩
theorem Ir (i:Nat) (hr:aP k X.A) (ha:PA X (e::es) t) (hj:j<=k) (hX:X.gx=g) (hN:X.N[i]?=some x) (hv:pX X.env.scope x) (hdb:(x==("__debug__":Str))=false)
  (hcd:(x==("__classdict__":Str))=false) (he:η (e::es) X.env=(false,eval e X.env)::η es X.env) (hpl:(b8 pos (η es X.env)).any (·.1)=false):PE X (.Call (.Name x p) (e::es) [] pos) (Yho g j i t):=by
 subst hX;intro pins s σ H Q I h;obtain ⟨f,fd,ps,sp,hσ,F,b,hf,ht⟩:=h;refine ej (aA (FN hN hv hdb hcd pins s σ H (λv H1=>v = .ref f/\H1 f=some (fD f fd)/\t σ H1 λvs H1=>H1 f=some (fD f fd)/\sp vs H1 Q E0) I (FJ hσ ⟨rfl,hf,ht⟩)) λu s1 ⟨v,H1,I1,r,e,hf1,ht⟩=>?_);subst e;obtain rfl:u=ae f:=r;refine PySem.W.callWith_F (Ip I1 hf1) (aA (ha pos pins s1 σ H1 _ I1 ht) λus s2 ⟨vs,H2,I2,r2,hf2,q⟩=>⟨Ip I2 hf2,?_⟩) he hpl;exact V3 F (hr.mono hj) (.all b) .nil Vh I2 r2 (by rw [a8];exact q)
end
abbrev yS:=List (Str×Addr×Addr)
theorem Yeb {P:δ} {w:ι} {K:Θ} {mg mb:Str->Option Α} {CX:fC} {k:Nat} {fa a:Addr} {fd:bt} {x:Str} {sp:Sp} {s₁:Ζ} {vs:List Α} {ns:List Int} (tabs:yS)
  (KX:K.In s₁.heap) (hns:s₁.heap.Ns az mg) (hb:s₁.heap.Ns gm mb) (hbb:∀ x:Str,x≠"__name__"->mb x=eh x) (hlim:s₁.heap.NoLimit) (hg:s₁.gens=#[])
  (ha:s₁.heap.get? a=some { cls := .type "list",data := .seq vs.toArray }) (hi:IntsAre vs ns) (hl:ns.length<=sizeLine) (hr:aP k callerA)
  (hT:∀ q∈tabs,i5 s₁.heap q.2.1 q.2.2/\s₁.heap.get? q.2.2=some (gg #[])) (hK:∀ q∈tabs,K.lookup q.2.2=none)
  (bmn:∃ bm ob,mg "__builtins__"=some (.ref bm)/\bm≠gm/\s₁.heap.get? bm=some ob/\ob.cls = .type "module"/\ob.dict=some gm/\ob.data = .plain)
  (F:∀ base:Heap,K.In base->base.Ns az mg->Bm mg base->(∀ q∈tabs,i5 base q.2.1 q.2.2)->bG P w K mg base CX k fa fd [x] sp) (hbind:∀ (s:Ζ) (u:Α),BindsTo s fd ⟨[u],[]⟩ [(x,u)])
  (hsp:∀ H:Hp,(∀ q∈tabs,H q.2.2=some (.bD #[]))->au K H a (ns.map V.int)->sp [.ref a] H (λv _=>v = .bl true) λ_ _ _=>False)
  (hCX:∀ H e s',CX [] H s₁ (λ_ _ _=>False) e s'->False) :
  gv (Ω P w) callerA (.call (.ref fa) ⟨[.ref a],[]⟩) (λr s'=>r = .ok (.ret (.bool true))/\OldK s₁.heap s'.heap/\s'.os=s₁.os/\iA s'.gens) s₁:=by
 have rv:=GZ hi;have lenV:=hi.length;have tobj:∀ b∈tabs.map (·.2.2),s₁.heap.get? b=some (gg #[]):=λb hb=>by
  obtain ⟨q,hq,rfl⟩:=ac.mp hb;exact (hT q hq).2
 have aT:a∉tabs.map (·.2.2):=λhb=>by
  have:=tobj a hb;rw [ha] at this
  cases this
 have core:∀ H:Hp,(∀ b,H b=none\/(∃ o xs,H b=some (.eH o (.lst xs)))\/(b∈tabs.map (·.2.2)/\H b=some (.bD #[])))->au K H a (ns.map V.int)->bB P w H s₁.heap->(∀ b,H b≠none->b=a\/b∈tabs.map (·.2.2))->(H a≠none->K.lookup a=none)->(∀ q∈tabs,H q.2.2=some (.bD #[])) ->
   gv (Ω P w) callerA (.call (.ref fa) ⟨[.ref a],[]⟩) (λr s'=>r = .ok (.ret (.bool true))/\OldK s₁.heap s'.heap/\s'.os=s₁.os/\iA s'.gens) s₁:=by
  intro H hO hS hok hA hKa hTb;have iu:∀ {b:Addr} {o:Obj},s₁.heap.get? b=some o->H b=none->(W2 s₁.heap H).get? b=some o:=λe n=>S5 e n
  have Iu:∀ {b:Addr} {o:Obj},s₁.heap.get? b=some o->o.cls ≠ .type "list"->o≠gg #[]->H b=none:=λ{b o} e d1 d2=>by
   cases q:H b with
   | none=>rfl
   | some u =>
    rcases hA b (by rw [q];simp) with e' | e'
    ·subst e'
     rw [ha] at e;cases e
     exact absurd rfl d1
    ·rw [tobj b e'] at e
     exact absurd (Δ e).symm d2
  have jg:∀ {b:Addr} {o:Obj} {es:Array DictEntry} {ep:Nat},s₁.heap.get? b=some o->o.data = .dict es ep->H b=none:=λ{b o es ep} e d=>by
   cases q:H b with
   | none=>rfl
   | some u =>
    rcases hA b (by rw [q];simp) with e' | e'
    ·subst e'
     rw [ha] at e;cases e
     have d':Data.seq vs.toArray _=Data.dict es ep:=d
     cases d'
    ·rw [tobj b e'] at e
     cases e
     have d':Data.fields #[]=Data.dict es ep:=d
     cases d'
  have u6:∀ {b:Addr} {m:Str->Option Α},s₁.heap.Ns b m->(W2 s₁.heap H).Ns b m:=λ{b m} ⟨o,es,ep,e,d,r⟩=>⟨o,es,ep,iu e (jg e d),d,r⟩
  have Iv:K.In (W2 s₁.heap H):=λb o e=>iu (KX b o e) (by
   cases q:H b with
   | none=>rfl
   | some u =>
    rcases hA b (by rw [q];simp) with e' | e'
    ·subst e'
     rw [hKa (by rw [q];simp)] at e;cases e
    ·obtain ⟨z,hz,rfl⟩:=ac.mp e'
     rw [hK z hz] at e;cases e)
  have hM:Mod K mg (W2 s₁.heap H):=⟨Iv,u6 hns,⟨mb,u6 hb,hbb⟩,let ⟨mc,h1,h2⟩:=hlim;⟨mc,u6 h1,h2⟩⟩;have e0:fK P w K mg (W2 s₁.heap H) callerA [] s₁ H:=⟨rfl,hM,λb o e=>S6 e,kb (SX _ _),trivial,λb hb=>absurd (show b∈([]:List Addr) from hb) (by simp),hok,.of_eq hg⟩;have hBm:Bm mg (W2 s₁.heap H):=by
   obtain ⟨bm,ob,b1,b2,b3,b4,b5,b6⟩:=bmn;refine ⟨bm,ob,b1,b2,λz=>?_,iu b3 (Iu b3 (by rw [b4];decide) λz=>by rw [z] at b4;cases b4),b4,b5,b6⟩;obtain ⟨o,es,ep,e,d,_⟩:=hns;rw [z,e] at b3;cases b3
   rw [d] at b6;cases b6
  have hCd:∀ q∈tabs,i5 (W2 s₁.heap H) q.2.1 q.2.2:=λq hq=>by
   obtain ⟨o,vs',file,tf,flags,tg,inF,text,tt,e1,e2,r⟩:=(hT q hq).1;exact ⟨o,vs',file,tf,flags,tg,inF,text,tt,iu e1 (Iu e1 (by rw [e2];decide) λz=>by rw [z] at e2;cases e2),e2,r⟩
  refine jI ((F _ Iv (u6 hns) hBm hCd).run callerA [] s₁ H ⟨[.ref a],[]⟩ [.ref a] [.ref a] _ _ hr e0 (hbind s₁ (.ref a)) (.cons rfl .nil) (hsp H hTb hS)) λr s' h=>?_
  cases r with
  | error e=>exact (hCX H e s' h).elim
  | ok fl =>
   cases fl with
   | next=>exact b9 h
   | brk=>exact b9 h
   | cont=>exact b9 h
   | ret u =>
    obtain ⟨v,H',os,bare,un,hok',r',q⟩:=h;have q':v = .bl true:=q;subst q';obtain rfl:u=kq true:=r';have each:∀ b o,s₁.heap.get? b=some o->s'.heap.get? b=some o\/((∃ z∈tabs,z.2.2=b)/\o=gg #[]/\∃ ps,s'.heap.get? b=some (gg ps)):=λb o e=>by
     rcases hO b with q | ⟨ob,xs,z⟩ | ⟨z1,z2⟩
     ·exact .inl (un.keep b o e q (by intro z;exact absurd (show b∈([]:List Addr) from z) (by simp)) (by simp))
     ·have z2:=un.dB b ob _ z
      obtain ⟨e1,_⟩:=hok b _ z;obtain ⟨e2,_⟩:=hok' b _ z2;rw [e] at e1;cases e1
      exact .inl e2
     ·obtain ⟨q,hq,e3⟩:=ac.mp z1
      obtain ⟨more,e4⟩:=un.dF b _ z2;have e5:s'.heap.get? b=some (gg (#[]++more)):=hok' b _ e4;rw [tobj b z1] at e
      exact .inr ⟨⟨q,hq,e3⟩,(Δ e).symm,_,e5⟩
    refine ⟨rfl,⟨λb o e=>?_,λb o e=>?_⟩,os,bare⟩
    ·rcases each b o e with h | ⟨⟨z,hz,rfl⟩,rfl,ps,h⟩
     ·exact .inl h
     ·exact .inr (.inl ⟨((hT z hz).1.tab (hT z hz).2).isCodeTable,rfl,#[],ps,rfl,by rw [Array.empty_append];exact h⟩)
    ·rcases each b o e with h | ⟨_,_,ps,h⟩
     ·exact ⟨o,h⟩
     ·exact ⟨_,h⟩
 have yU:∀ q∈tabs,q.2.2∈tabs.map (·.2.2):=λq hq=>bX hq
 have yV:∀ {H:Hp} {b:Addr},b∈tabs.map (·.2.2)->YN P w H s₁.heap b (.bD #[]):=λhb=>tobj _ hb
 cases hk:K.lookup a with
 | some o =>
  have e:=KX a o hk;rw [ha] at e
  cases e
  refine core (λb=>if b∈tabs.map (·.2.2) then some (.bD #[]) else none) (λb=>?_) (.inr ⟨_,vs.toArray,_,hk,rfl,rfl,rfl,by rw [ψ,lenV];exact hl,by simpa using rv⟩) (λb u z=>?_) (λb z=>?_) (λz=>absurd (if_neg aT) z) λq hq=>if_pos (yU q hq)
  ·by_cases hb:b∈tabs.map (·.2.2)
   ·exact .inr (.inr ⟨hb,if_pos hb⟩)
   ·exact .inl (if_neg hb)
  ·by_cases hb:b∈tabs.map (·.2.2)
   ·have z':=(if_pos hb).symm.trans z
    cases z'
    exact yV hb
   ·have z':=(if_neg hb).symm.trans z
    cases z'
  ·by_cases hb:b∈tabs.map (·.2.2)
   ·exact .inr hb
   ·exact absurd (if_neg hb) z
 | none =>
  refine core (λb=>if b∈tabs.map (·.2.2) then some (.bD #[]) else if b=a then some (.eH { cls := .type "list",data := .seq vs.toArray } (.lst (ns.map V.int))) else none) (λb=>?_) (.inl (.inr ⟨{ cls := .type "list",data := .seq vs.toArray },(if_neg aT).trans (if_pos rfl)⟩)) (λb u z=>?_) (λb z=>?_) (λ_=>hk) λq hq=>if_pos (yU q hq)
  ·by_cases hb:b∈tabs.map (·.2.2)
   ·exact .inr (.inr ⟨hb,if_pos hb⟩)
   ·by_cases hb2:b=a
    ·exact .inr (.inl ⟨_,_,(if_neg hb).trans (if_pos hb2)⟩)
    ·exact .inl ((if_neg hb).trans (if_neg hb2))
  ·by_cases hb:b∈tabs.map (·.2.2)
   ·have z':=(if_pos hb).symm.trans z
    cases z'
    exact yV hb
   ·have z1:=(if_neg hb).symm.trans z
    by_cases hb2:b=a
    ·have z':=(if_pos hb2).symm.trans z1
     cases z'
     subst hb2;exact ⟨ha,by rw [Β];exact hl,vs,_,rv,ha⟩
    ·have z':=(if_neg hb2).symm.trans z1
     cases z'
  ·by_cases hb:b∈tabs.map (·.2.2)
   ·exact .inr hb
   ·by_cases hb2:b=a
    ·exact .inl hb2
    ·exact absurd ((if_neg hb).trans (if_neg hb2)) z
def Ux (K:Θ) (tabs:yS):Sp:=λvs H Q _=>∃ (a:Addr) (ns:List Int),vs=[.ref a]/\au K H a (ns.map V.int)/\ns.length<=63/\(∀ q∈tabs,H q.2.2=some (.bD #[]))/\∀ H',Q (.bl true) H'
theorem Ye4 {l:PySem.W.OpenLaw} {q:δ} {loose:List Str} {XP:(Str->Option Α)->Heap->Prop} {YP:ι->Heap->Prop} {d:DefRec} {K:Params->Θ} (tabs:yS) (k:Nat) (x:Str) (st:Stmt) (N:List Str) (hn:l.most=some 63) (hdf:d.params.defaults=[]) (hk:aP (k+1) callerA) (S:ak N [x] (Yj st))
  (hY:∀ (w:ι) (h:Heap),YP w h->(K w.params).In h)
  (hrec:∀ p∈tabs,∃ d',(recsOf q).find? (λe=>e.name==p.1)=some d')
  (htab:∀ (w:ι),∀ p∈tabs,PySem.W.tabIn (K w.params) p.1=some p.2)
  (hno:∀ (w:ι),∀ p∈tabs,(K w.params).lookup p.2.2=none)
  (F:∀ (w:ι) (mg:Str->Option Α) (h:Heap),(K w.params).In h->h.Ns az mg->Ht (K w.params) mg st x d.name/\∀ base,Bm mg base->(∀ p∈tabs,i5 base p.2.1 p.2.2)->V6 (Gx.mk l.prog w (K w.params) mg base) k N d.name st (Ux (K w.params) tabs)) :
  PySem.W.WalkO q loose XP YP l.row.toRowW d [] (λf vs=>PySem.call f vs):=by
 refine GX.mH hn hdf λw s₀ s₁ mg mb fa o pm cd doc a vs ns G Y ho hd hcd hmg hobj hints hlen hg=>?_
 have KX:=hY w _ Y;obtain ⟨⟨f,fd,Fu,hb,hm⟩,B⟩:=F w mg _ KX G.T.g;have e:=hmg.symm.trans hm
 cases e
 refine Yeb (CX:=cL) (sp:=Ux (K w.params) tabs) tabs KX G.T.g G.T.b G.T.builtins G.T.nolimit hg hobj hints (Τ hlen (by decide)) hk (λp hp=>?_) (hno w) G.T.bmain
  (λbase _ _ hB hC=>Fu.ok S (λvs H Q E h=>by obtain ⟨a,ns,rfl,_⟩:=h;rfl) λcdv A outer s H vs Q E hr h=>B base hB hC fa cdv A outer s H vs Q E hr h) hb (λH hT hS=>⟨a,ns,rfl,hS,hlen,hT,λ_=>rfl⟩) λH e s' z=>z
 obtain ⟨d',hd'⟩:=hrec p hp;exact PySem.W.tab_of G.T KX hd' (htab w p hp)
def inDef (s:Stmt) (j:Nat):Stmt:=(YI s).getD j (.Pass ⟨0,0,0,0⟩)
def Gx.lA (g:Gx) (x qual:Str) (st:Stmt) (ps:List Str) (c:Addr):Prop:=∃ f fd,fO g.K x qual st f fd/\Xc g.K fd ps []/\g.mg x=some (.ref f)/\fd.code = .ref c
theorem Gx.lA.fnC {g:Gx} {k:Nat} {x qual:Str} {st:Stmt} {N ps:List Str} {c:Addr} {sp:Sp} (R:g.lA x qual st ps c) (S:ak N ps (Yj st)) (len:∀ vs H Q E,sp vs H Q E->vs.length=ps.length)
  (b:∀ (f:Addr) (A:ag) (outer:List Env) (s:Ζ) (H:Hp) (vs:List V) (Q:VK) (E:XK),aP k (g.cx N qual st f (.ref c) A outer s H E).A->sp vs H Q E ->
   ∃ t,PR (g.cx N qual st f (.ref c) A outer s H E) (YI st) t/\t (λσ v H'=>∃ l,QK (g.cx N qual st f (.ref c) A outer s H E) σ l/\((∀ c∈l.as,H' c=none)->Q v (lay H' l))) (XN N vs) H):g.Fn (k+1) x ps sp:=by
 obtain ⟨f,fd,F,bd,hm,hc⟩:=R;refine ⟨f,fd,F.okC S len λcdv A outer s H vs Q E e hr h=>?_,bd,F.kp,hm⟩;have e':cdv = .ref c:=e.symm.trans hc;subst e';exact b f A outer s H vs Q E hr h
theorem YgC {K:Θ} {h:Heap} {mg:Str->Option Α} {f:Addr} {x:Str} {st:Stmt} {c:Addr} {oc kV dc pm cd ct:Α} {od an:Option Addr} {sl:Array (Option Α)} (X:K.In h) (G:h.Ns az mg) (ps:List Str)
  (a:jS K az x=some (some (.ref f))) (l:K.lookup f=some ⟨oc,od,.func (c8 x x (YV st) (YI st) (Yj st) .none kV dc pm an cd ct),sl⟩) (cc:ie K cd x=true) (k:eQ K (.ref f)=true) (e:cd = .ref c)
  (b:∀ (kV doc pm:Α) (an:Option Addr) (cdv ct:Α) (us:List Α),us.length=ps.length->fN (c8 x x (YV st) (YI st) (Yj st) .none kV doc pm an cdv ct) ⟨us,[]⟩=pure (ps.zip us)) :
  ∀ P w base,(Gx.mk P w K mg base).lA x x st ps c:=λP w base =>
 have F:=Vt (st:=st) l cc k
 ⟨f,_,F,F.binds b,jb X G a,e⟩
end L2
namespace HT
open PySem PySem.Spec PyProof.Rows
variable {prog:δ} {w:ι} {A:ag} {E:Α->Ζ->Prop} {s:Ζ}
end HT
namespace L2
open PySem PySem.Spec PyProof.Rows
structure RL (K:Θ) (x qual:Str) (st:Stmt) (f:Addr) (fd:bt) (T:Addr):Prop where
 ex:∃ (oc:Α) (od:Option Addr) (kV doc pm:Α) (an:Option Addr) (cdv ct:Α) (osl:Array (Option Α)),
  fd=c8 x qual (YV st) (YI st) (Yj st) (.ref T) kV doc pm an cdv ct/\K.lookup f=some ⟨oc,od,.func fd,osl⟩/\ie K cdv qual=true
 kp:eQ K (.ref f)=true
def Gx.Iw (g:Gx) (k:Nat) (x:Str) (ps:List Str) (aV:List V) (sp:Sp):Prop:=∃ f fd ds,bG g.P g.w g.K g.mg g.base cL k f fd ps sp/\Yt aV ds/\Xc g.K fd ps ds/\eQ g.K (.ref f)=true/\g.mg x=some (.ref f)
section
variable {g:Gx} {x qual:Str} {st:Stmt} {N ps:List Str} {aV:List V} {sp:Sp} {j k:Nat}
variable {X:Cx} {p pos:Pos} {e:Expr} {es:List Expr} {t:TA}
theorem Yhp (F:g.Iw j x ps aV sp) (hr:aP k X.A) (ha:PA X (e::es) t) (hj:j<=k) (hX:X.gx=g) (hg:Gl X x) (hdb:(x==("__debug__":Str))=false)
  (he:η (e::es) X.env=(false,eval e X.env)::η es X.env) (hpl:(b8 pos (η es X.env)).any (·.1)=false):PE X (.Call (.Name x p) (e::es) [] pos) (VE sp aV E0 t):=by
 subst hX;obtain ⟨f,fd,ds,F,hv,b,kp,hm⟩:=F;exact Gs F (hr.mono hj) hg hm kp b hv Vh ha hdb he hpl
end
section
variable {src:List (Option Nat)} {te:TE} {σ:St} {H:Hp} {Q:VK}
theorem Yec {K:Θ} {tl:TE} {xs:List V} {b:Addr} (I:Addr->Nat->List V->Hp->Prop) (ha:∀ R:V->Hp->Prop,R (.ref b) H->tl σ H R) (hS:au K H b xs) (hlen:xs.length<=100000)
  (i0:∀ D,H D=none->I D 0 [] (upd H D (.lst []))) (dl:∀ D i zs H',H D=none->I D i zs H'->zs.length=i/\H' D=some (.lst zs)/\au K H' b xs)
  (step:∀ D (i:Nat) x zs H',H D=none->xs[i]?=some x->I D i zs H'->∀ R:VK,(∀ y aG,aG D=some (.lst zs)->I D (i+1) (zs++[y]) (upd aG D (.lst (zs++[y])))->R y aG)->te (some x::Yy src σ) H' R)
  (fin:∀ D zs H',H D=none->I D xs.length zs H'->Q (.ref D) H'):cW (none::src) (Wf K tl) (Yv 0) XF te σ H Q:=by
 refine ha _ ⟨b,rfl,⟨xs,hS⟩,λD hD=>?_⟩;have h6:100000<sizeLine:=by decide
 refine WR XO (λi zs σ' H'=>(∃ o,σ'=o::Yy src σ)/\i<=xs.length/\I D i zs H') ⟨⟨none,rfl⟩,ν _,i0 D hD⟩ (λi zs σ' H' q=>⟨(dl _ _ _ _ hD q.2.2).2.2,(dl _ _ _ _ hD q.2.2).2.1⟩) (XQ 0) ?_ ?_
 ·rintro i zs σ' H' x hx ⟨⟨o,rfl⟩,_,hI⟩
  have hi:i<xs.length:=(Η.mp hx).1;have hl:=(dl _ _ _ _ hD hI).1
  show te (some x::Yy src σ) H' _
  exact step D i x zs H' hD hx hI _ λy aG hd hI'=>⟨hd,by omega,⟨_,rfl⟩,hi,hI'⟩
 ·rintro zs σ' H' ⟨_,_,hI⟩
  exact fin D zs H' hD hI
end
mutual
inductive RK (h:Heap):Α->Γ->Prop
 | int (i:Int) (t:Tok):RK h (.int i t) (.int i)
 | str (x:Str) (t:Tok) (hx:bu x=true):RK h (.str x t) (.str x)
 | tup {a:Addr} {o:Obj} {vs:Array Α} {n:Nat} {ds:List Γ}:h.get? a=some o->o.cls = .type "tuple"->o.data = .seq vs n->dO h vs.toList ds->RK h (.ref a) (.tuple ds)
inductive dO (h:Heap):List Α->List Γ->Prop
 | nil:dO h [] []
 | cons {v:Α} {d:Γ} {vs:List Α} {ds:List Γ}:RK h v d->dO h vs ds->dO h (v::vs) (d::ds)
end
mutual
inductive KO:Γ->Prop
 | int (i:Int):KO (.int i)
 | str (x:Str):KO (.str x)
 | tup {ds:List Γ}:gG ds->KO (.tuple ds)
inductive gG:List Γ->Prop
 | nil:gG []
 | cons {d:Γ} {ds:List Γ}:KO d->gG ds->gG (d::ds)
end
mutual
theorem RK.ko {h:Heap}:∀ {v:Α} {d:Γ},RK h v d->KO d
 | _,_,.int i t => .int i
 | _,_,.str x t _ => .str x
 | _,_,.tup _ _ _ hs => .tup hs.ko
theorem dO.ko {h:Heap}:∀ {vs:List Α} {ds:List Γ},dO h vs ds->gG ds
 | _,_,.nil => .nil
 | _,_,.cons a b => .cons a.ko b.ko
end
mutual
theorem RK.reads {h:Heap}:∀ {v:Α} {d:Γ},RK h v d->(∃ as,Reads h v d as)/\d.canLay0=true
 | _,_,.int i t=>⟨⟨_,.int i t⟩,rfl⟩
 | _,_,.str x t hx=>⟨⟨_,.str x t⟩,by simpa [eR] using hx⟩
 | _,_,.tup h1 h2 h3 hs=>by
  obtain ⟨⟨as,r⟩,l⟩:=hs.reads;exact ⟨⟨_,.tuple h1 h2 h3 r⟩,by rw [eR];exact l⟩
theorem dO.reads {h:Heap}:∀ {vs:List Α} {ds:List Γ},dO h vs ds->(∃ as,ReadsAll h vs ds as)/\eJ ds=true
 | _,_,.nil=>⟨⟨_,.nil⟩,rfl⟩
 | _,_,.cons a b=>by
  obtain ⟨⟨as,r⟩,l⟩:=a.reads;obtain ⟨⟨bs,r'⟩,l'⟩:=b.reads;exact ⟨⟨_,.cons r r'⟩,by rw [eJ,l,l'];rfl⟩
end
theorem RK.of {h:Heap} {d:Γ} {v:Α} {as:List Addr} (k:KO d) (r:Reads h v d as) (l:d.canLay0=true):RK h v d:=by
 induction k using KO.rec (motive_2:=λds _=>∀ {vs:List Α} {as:List Addr},ReadsAll h vs ds as->eJ ds=true->dO h vs ds) generalizing v as with
 | int i=>cases r with | int _ t=>exact .int i t
 | str x=>cases r with | str _ t=>exact .str x t (by simpa [eR] using l)
 | tup _ ih=>cases r with | tuple h1 h2 h3 hs=>exact .tup h1 h2 h3 (ih hs (by rw [eR] at l;exact l))
 | nil=>rename_i r l;cases r;exact .nil
 | cons _ _ ih ihs =>
  rename_i r l;rw [eJ,fc] at l
  cases r with | cons r rs=>exact .cons (ih r l.1) (ihs rs l.2)
theorem RK.inj {h:Heap} {d:Γ} {v:Α} {e:Γ} (a:RK h v d) (b:RK h v e):d=e:=by
 obtain ⟨⟨_,r⟩,l⟩:=a.reads;obtain ⟨⟨_,r'⟩,_⟩:=b.reads;exact (r.unique _ _ r').1
mutual
theorem RK.keeps {h h':Heap} {x:Addr} {o:Obj} {es:Array DictEntry} {ep:Nat} (ho:h.get? x=some o) (hd:o.data = .dict es ep) (hs:bP x h h'):∀ {v:Α} {d:Γ},RK h v d->RK h' v d
 | _,_,.int i t => .int i t
 | _,_,.str y t hy => .str y t hy
 | _,_,.tup (a:=a) h1 h2 h3 ks=>by
  have hne:a≠x:=by
   rintro rfl;rw [ho] at h1
   cases h1
   rw [hd] at h3
   exact nomatch h3
  exact .tup ((hs.2 a hne).trans h1) h2 h3 (dO.keeps ho hd hs ks)
theorem dO.keeps {h h':Heap} {x:Addr} {o:Obj} {es:Array DictEntry} {ep:Nat} (ho:h.get? x=some o) (hd:o.data = .dict es ep) (hs:bP x h h'):∀ {vs:List Α} {ds:List Γ},dO h vs ds->dO h' vs ds
 | _,_,.nil => .nil
 | _,_,.cons a b => .cons (RK.keeps ho hd hs a) (dO.keeps ho hd hs b)
end
noncomputable instance agW:DecidableEq PyData:=λa b=>Classical.propDecidable (a=b)
mutual
theorem KO.eqv:∀ {d e:Γ},KO d->KO e->d.eqv e=decide (d=e)
 | .int a,.int b,_,_=>by
  by_cases h:a=b
  ·subst h;simp [dk]
  ·simp [dk,h]
 | .str a,.str b,_,_=>by
  by_cases h:a=b
  ·subst h;simp [dk]
  ·simp [dk,h]
 | .int a,.str b,_,_=>by simp [dk]
 | .str a,.int b,_,_=>by simp [dk]
 | .int a,.tuple b,_,_=>by simp [dk]
 | .str a,.tuple b,_,_=>by simp [dk]
 | .tuple a,.int b,_,_=>by simp [dk]
 | .tuple a,.str b,_,_=>by simp [dk]
 | .tuple a,.tuple b,.tup x,.tup y=>by
  rw [dk,gG.eqv x y];by_cases h:a=b
  ·subst h;simp
  ·simp [h]
theorem gG.eqv:∀ {ds es:List Γ},gG ds->gG es->im ds es=decide (ds=es)
 | [],[],_,_=>by simp [im]
 | [],_::_,_,_=>by simp [im]
 | _::_,[],_,_=>by simp [im]
 | d::ds,e::es,.cons x xs,.cons y ys=>by
  rw [im,KO.eqv x y,gG.eqv xs ys];by_cases h:d=e
  ·subst h
   by_cases h2:ds=es
   ·subst h2;simp
   ·simp [h2]
  ·simp [h]
end
section
variable {P:δ} {w:ι}
mutual
def kh (P:δ) (w:ι):Γ->Int
 | .int i=>(Y1 P w).hash (.inl i)
 | .str x=>(Y1 P w).hash (.inr x)
 | .tuple ds=>reduceHash (ca (eU P w ds))
 | _=>0
def eU (P:δ) (w:ι):List Γ->List Int
 | []=>[]
 | d::ds=>kh P w d::eU P w ds
end
mutual
def kdr:Γ->Nat
 | .int _=>1
 | .str _=>1
 | .tuple ds=>Wt ds+1
 | _=>0
def Wt:List Γ->Nat
 | []=>0
 | d::ds=>kdr d+Wt ds
end
theorem YgD (a b:List Γ):eU P w (a++b)=eU P w a++eU P w b:=by
 induction a with
 | nil=>simp [eU]
 | cons x a ih=>simp [eU,ih]
theorem Ye5 (a b:List Γ):Wt (a++b)=Wt a+Wt b:=by
 induction a with
 | nil=>simp [Wt]
 | cons x a ih=>simp [Wt,ih,io]
theorem Ye6 (a b:List Γ):θ (a++b)=max (θ a) (θ b):=by
 induction a with
 | nil=>simp [θ]
 | cons x a ih=>simp [θ,ih,Nat.max_assoc]
theorem Qm {s:Ζ} {a:Addr} {o:Obj} (h1:s.heap.get? a=some o) (h2:o.cls = .type "tuple"):s.TypeIs (.ref a) "tuple":=⟨o,h1,h2⟩
theorem Iz:∀ (n:Nat) {A:ag} {E:Α->Ζ->Prop} {s:Ζ} {v:Α} {d:Γ} {Q:Int->Ζ->Prop},RK s.heap v d->d.depth<=n->A.units+n<ia->Q (kh P w d) { s with toks:=s.toks+kdr d }->Χ (Ω P w) A (pyHash v) Q E s
 | n,A,E,s,_,_,Q,.int i t,_,_,h=>(Y1 P w).pyHash (uV (k := .inl i) (show YB (.int i) (.int i t) from ⟨t,rfl⟩)) (by simpa [kh,kdr] using h)
 | n,A,E,s,_,_,Q,.str x t _,_,_,h=>(Y1 P w).pyHash (uV (k := .inr x) (show YB (.str x) (.str x t) from ⟨t,rfl⟩)) (by simpa [kh,kdr] using h)
 | 0,A,E,s,_,_,Q,.tup _ _ _ _,hd,_,h=>by simp [aa] at hd
 | n+1,A,E,s,_,_,Q,.tup (a:=a) (ds:=ds) h1 h2 h3 ks,hd,hu,h=>by
  have hT:=Qm h1 h2;unfold pyHash
  first | unfold pyHashByItsType | skip
  first | refine Ι (wpAny_cRoomFor_or (.inr (by omega)) ?_) | skip
  refine Ι (iN hT F.slot_tuple_hash.lookup ?_)
  show Χ _ _ (if (some (Value.builtin "tuple.__hash__")==some ic)=true then _ else _) Q E s
  rw [if_neg (by rw [beq_builtin_none];exact τ)];refine Ι (iN hT F.slot_tuple_hash.lookup ?_);refine Ι (wpAny_callSpecialIfBoundUnlessNone?_slot hT F.slot_tuple_hash (gs F.slot_tuple_hash hT F.entry_tuple_hash ?_ (F.args_tuple_hash_1 _)))
  show Χ _ _ (Builtin.Tuple.tupleItemsOf (.ref a) >>= _) _ _ s
  refine Ι (wpAny_tupleItemsOf h1 h3 ?_);refine Ι ?_;rw [<- Array.forIn_toList];have hdd:θ ds<=n:=by simp only [aa] at hd;omega
  refine wpAny_forIn_list _ (λYG (b:Array Int) s'=>∃ done left,ds=done++left/\dO s.heap YG left/\b.toList=eU P w done/\s'={ s with toks:=s.toks+Wt done }) _ ?_ ?_ _ _ ⟨[],ds,rfl,ks,by simp [eU],by simp [Wt]⟩
  ·rintro x YG b s' ⟨done,left,e,hl,hb,rfl⟩
   cases hl with
   | @cons _ d _ ds' hk hl' =>
    have hdk:d.depth<=n:=by
     rw [e,Ye6] at hdd
     simp only [θ] at hdd;omega
    have hin:A.in1.units+n<cLine:=by
     have:A.in1.units=A.units+1:=rfl;omega
    refine Ι (Iz n (s:={ s with toks:=s.toks+Wt done }) hk hdk hin ?_);have fin:∃ oM left',ds=oM++left'/\dO s.heap YG left'/\(b.push (kh P w d)).toList=eU P w oM/\({ s with toks:=s.toks+Wt done+kdr d }:Ζ)={ s with toks:=s.toks+Wt oM } :=
     ⟨done++[d],ds',by rw [e];simp,hl',by rw [YgD,Array.toList_push,hb];simp [eU],by rw [Ye5];simp [Wt,io]⟩
    first
     | exact Ρ fin
     | exact Ι (Ρ (Ρ fin))
  ·rintro b s' ⟨done,left,e,hl,hb,rfl⟩
   cases hl
   rw [a8] at e
   subst e
   show Χ _ _ (retInt (ca b.toList)) _ _ _
   rw [hb];refine wpAny_ret_mkInt ?_;simp only [kh,kdr] at h;unfold reduceHash at h
   show Χ _ _ (if (decide (-(2:Int)^63<=ca (eU P w ds))&&decide (ca (eU P w ds)<2^63))=true then _ else _) Q E _
   by_cases hr:(decide (-(2:Int)^63<=ca (eU P w ds))&&decide (ca (eU P w ds)<2^63))=true
   ·rw [if_pos hr]
    rw [if_pos hr] at h
    exact Ρ (by simpa [io] using h)
   ·rw [if_neg hr]
    rw [if_neg hr] at h
    exact Ι (wpAny_rule (Ρ (by simpa [io] using h)))
theorem IK:∀ (n:Nat) {A:ag} {E:Α->Ζ->Prop} {s:Ζ} {v:Α} {d:Γ} {Q:Bool->Ζ->Prop},RK s.heap v d->d.depth<=n->Q true s->Χ (Ω P w) A (eqIsQuiet n v) Q E s
 | n,A,E,s,_,_,Q,.int i t,_,h=>by rw [eqIsQuiet_byValue _ (by rfl)];exact Ρ h
 | n,A,E,s,_,_,Q,.str x t _,_,h=>by rw [eqIsQuiet_byValue _ (by rfl)];exact Ρ h
 | 0,A,E,s,_,_,Q,.tup _ _ _ _,hd,h=>by simp [aa] at hd
 | n+1,A,E,s,_,_,Q,.tup (a:=a) (ds:=ds) h1 h2 h3 ks,hd,h=>by
  have hT:=Qm h1 h2;have hdd:θ ds<=n:=by simp only [aa] at hd;omega
  unfold eqIsQuiet;refine Ι (iN hT F.slot_tuple_eq.lookup ?_);refine Ι (wpAny_isInstance hT isSubtype_tuple_tuple ?_);simp only [Bool.not_true,ek,if_false];refine Ι (wpAny_seqItems h1 h3 ?_);refine Ι ?_;rw [Option.getD_some,<- Array.forIn_toList];refine wpAny_forIn_list _ (λYG r s'=>r.1=none/\s'=s/\∃ left,dO s.heap YG left/\θ left<=n) _ ?_ ?_ _ _ ⟨rfl,rfl,ds,ks,hdd⟩
  ·rintro v YG r s' ⟨hr,rfl,left,hl,hdl⟩
   cases hl with
   | @cons _ d _ ds' hk hl' =>
    simp only [θ] at hdl;refine Ι (IK n hk (by omega) ?_);simp only [Bool.not_true,ek,if_false];exact Ρ ⟨rfl,rfl,ds',hl',by omega⟩
  ·rintro ⟨r1,r2⟩ s' ⟨hr,rfl,_⟩
   simp only at hr;subst hr;exact Ρ h
noncomputable def gj (P:δ) (w:ι):HeapKind P w Γ where
 is:=λh d a=>RK h (.ref a) d/\d.depth<=8
 hash:=kh P w
 draws:=kdr
 room:=λA=>A.units+8<ia
 inj:=λhx hy=>hx.1.inj hy.1
 keeps:=λx ho hd hs=>⟨x.1.keeps ho hd hs,x.2⟩
 pyHash:=λhu hk h=>Iz 8 hk.1 hk.2 hu h
 eqBool:=λ{A E s x y a b Q} hu hx hy h=>by
  obtain ⟨⟨as,r1⟩,l1⟩:=hx.1.reads;obtain ⟨⟨bs,r2⟩,l2⟩:=hy.1.reads;have hm:min x.depth y.depth<=8:=Τ (Nat.min_le_left _ _) hx.2;exact SeqAt.eqAt_reads x y A s _ _ _ _ r1 r2 l1 l2 (by omega) P w E Q (by rw [KO.eqv hx.1.ko hy.1.ko];exact h)
 quiet:=λhk h=>IK 8 hk.1 hk.2 h
end
abbrev Dx:=List (Γ×Addr×Addr)
def XE (x:Γ×Addr×Addr):Γ×Addr×Value:=(x.1,x.2.1,.ref x.2.2)
noncomputable def cg (P:δ) (w:ι) (a:Addr) (xs:Dx):HO := .ext λh=>(a==ft)=false/\∃ o es ep,h.get? a=some o/\o.ExactDict/\o.data = .dict es ep/\es.toList=(xs.map XE).map (entryOfKey (gj P w))
theorem yW {P:δ} {w:ι} {H:Hp} {h:Heap} {a:Addr} {xs:Dx} (hd:(a==ft)=false) (e:∃ o es ep,h.get? a=some o/\o.ExactDict/\o.data = .dict es ep/\es.toList=(xs.map XE).map (entryOfKey (gj P w))):YN P w H h a (cg P w a xs):=by
 refine ⟨⟨hd,e⟩,?_,λh1 h2 p k=>?_⟩
 ·obtain ⟨o,es,ep,h1,_⟩:=e
  exact ⟨o,h1⟩
 ·obtain ⟨q,o,es,ep,g1,g2⟩:=p
  exact ⟨q,o,es,ep,k _ g1,g2⟩
structure DK (K:Θ) (H:Hp) (b:Addr) (d:Γ):Prop where
 den:Den K H (.ref b) d
 ko:KO d
 dp:d.depth<=8
theorem DK.keep {K:Θ} {H H':Hp} {b:Addr} {d:Γ} (h:DK K H b d) (s:Yk H H'):DK K H' b d:=⟨h.den.keep s,h.ko,h.dp⟩
noncomputable def aK (xs:Dx) (d:Γ):Option Addr:=(xs.find? λx=>decide (x.1=d)).map (·.2.2)
structure bC (P:δ) (w:ι) (K:Θ) (H:Hp) (a:Addr) (xs:Dx):Prop where
 at_:H a=some (cg P w a xs)
 nd:(xs.map (·.1)).Nodup
 len:xs.length<=1000
 keys:∀ x∈xs,DK K H x.2.1 x.1
section
variable {X:Cx} {pins:List (Addr×Obj)} {σ:St} {H:Hp} {s:Ζ} {a b:Addr} {d:Γ} {xs:Dx} {u r:Α} {A:ag} {E:Α->Ζ->Prop}
theorem Qn (I:Inv X pins σ H s) (h:DK X.K H b d):(gj X.prog X.w).is s.heap d b:=by
 obtain ⟨as,r⟩:=h.den.reads I (show YB (.ref b) (.ref b) from rfl);exact ⟨RK.of h.ko r h.den.lay,h.dp⟩
theorem Qo (I:Inv X pins σ H s) (h:bC X.prog X.w X.K H a xs):(a==ft)=false/\s.heap.DictOfH (gj X.prog X.w) a (xs.map XE):=by
 obtain ⟨⟨hd,o,es,ep,h1,h2,h3,h4⟩,_⟩:=(show YN X.prog X.w H s.heap a (cg X.prog X.w a xs) from I.hok a _ h.at_);refine ⟨hd,o,es,ep,h1,h2,h3,h4,λx hx=>?_,?_⟩
 ·obtain ⟨y,hy,rfl⟩:=ac.mp hx
  exact Qn I (h.keys y hy)
 ·have:(xs.map XE).map (·.1)=xs.map (·.1):=by rw [bo];rfl
  rw [this];exact h.nd
theorem WH (xs:Dx) (d:Γ):(atKey (xs.map XE) d).map (·.2)=(aK xs d).map Α.ref:=by
 induction xs with
 | nil=>rfl
 | cons x xs ih =>
  by_cases h:x.1=d
  ·simp [atKey,aK,a7,XE,h]
  ·simp only [atKey,aK,χ,a7,XE,h] at ih ⊢
   simpa using ih
theorem Ydd {p:Addr} {Q:Α->Ζ->Prop} (hu:A.units+9<ia) (I:Inv X pins σ H s) (g:bC X.prog X.w X.K H a xs) (k:DK X.K H b d) (l:aK xs d=some p) (h:∀ s',Inv X pins σ H s'->Q (.ref p) s') :
  Χ (Ω X.prog X.w) A (fq (.ref a) (.ref b)) Q E s:=by
 obtain ⟨hd,dd⟩:=Qo I g;have e:=WH xs d;rw [l] at e
 obtain ⟨q,hq,hq2⟩:=ε.mp e;refine wpAny_getItem_heap (show A.in1.units+8<ia from by have:A.in1.units=A.units+1:=rfl;omega) (Qn I k) dd hq ?_;rw [hq2];exact h _ (I.tok _)
theorem Ye7 {Q:Α->Ζ->Prop} (hu:A.units+9<ia) (I:Inv X pins σ H s) (g:bC X.prog X.w X.K H a xs) (k:DK X.K H b d) (h:∀ s',Inv X pins σ H s'->Q (.bool (!(aK xs d).isSome)) s') :
  Χ (Ω X.prog X.w) A (dE .NotIn (.ref b) (.ref a)) Q E s:=by
 obtain ⟨hd,dd⟩:=Qo I g;refine wpAny_notIn_heap (show A.in1.units+8<ia from by have:A.in1.units=A.units+1:=rfl;omega) (Qn I k) hd dd ?_;have e:=congrArg Option.isSome (WH xs d);rw [Option.isSome_map,Option.isSome_map] at e
 rw [e];exact h _ (I.tok _)
theorem Qp {p:Addr} {Q:Unit->Ζ->Prop} (hu:A.units+9<ia) (I:Inv X pins σ H s) (g:bC X.prog X.w X.K H a xs) (k:DK X.K H b d) (l:aK xs d=none) (hl:xs.length<1000) (h:∀ s',Inv X pins σ (upd H a (cg X.prog X.w a (xs++[(d,b,p)]))) s'->Q () s') :
  Χ (Ω X.prog X.w) A (setItem (.ref a) (.ref b) (.ref p)) Q E s:=by
 obtain ⟨hd,dd⟩:=Qo I g;have hz:(xs.map XE).length<=sizeLine:=by rw [Β];exact Τ (ge hl) (by decide)
 refine wpAny_setItem_heap (hsz:=hz) (show A.in1.units+8<ia from by have:A.in1.units=A.units+1:=rfl;omega) (Qn I k) dd λh' ql hs=>h _ ?_
 have e:atKey (xs.map XE) d=none:=by
  have e:=WH xs d;rw [l] at e
  cases q:atKey (xs.map XE) d with
  | none=>rfl
  | some z=>rw [q] at e;cases e
 rw [storedH_new e] at ql
 obtain ⟨q,es,ep,hq,h2,h3,h4,_,h5⟩:=ql;refine Hg I (by rw [g.at_];exact d3) hs ⟨q,hq⟩ (yW hd ⟨q,es,ep,hq,h2,h3,?_⟩);rw [h4,bc (f:=XE)];rfl
end
def Qq (P:δ) (w:ι) (K:Θ) (td ty:TE):TE:=λσ H Q=>td σ H λx H1=>ty σ H1 λy H2=>∃ a b xs d p,x = .ref a/\y = .ref b/\bC P w K H2 a xs/\DK K H2 b d/\aK xs d=some p/\Q (.ref p) H2
def IV (P:δ) (w:ι) (K:Θ) (td ty tv:TE):TS:=λD σ H=>tv σ H λv H1=>td σ H1 λx H2=>ty σ H2 λy H3=>∃ a b xs d p,v = .ref p/\x = .ref a/\y = .ref b/\bC P w K H3 a xs/\DK K H3 b d/\aK xs d=none/\xs.length<1000/\D.nx σ (upd H3 a (cg P w a (xs++[(d,b,p)])))
def Yhq (P:δ) (w:ι):TE:=λ_ H Q=>∀ p,H p=none->Q (.ref p) (upd H p (cg P w p []))
section
variable {X:Cx} {o i e value:Expr} {pos pos' tpos:Pos} {td ty tv:TE} {k:Nat}
theorem V9 {A:ag} {k:Nat} (hr:aP k A):A.units+9<cLine:=gV (Nat.add_le_add_left (by decide:9<=64) _) hr.units
theorem Ye8 (hr:aP k X.A) (ho:PE X o td) (hi:PE X i ty) (hs:tV i):PE X (.Subscript o i pos) (Qq X.prog X.w X.K td ty):=by
 intro pins s σ H Q I h;refine Hh F.slot_dict_getitem.lookup hs (aA (ho pins s σ H _ I h) λu s1 ⟨x,H1,I1,rx,q1⟩=>aA (hi pins s1 σ H1 _ I1 q1) λiv s2 ⟨y,H2,I2,ry,a,b,xs,d,p,ex,ey,g,kk,l,q2⟩=>?_);subst ex ey;obtain rfl:u=ae a:=rx;obtain rfl:iv=ae b:=ry;exact ⟨(Qo I2 g).2.typeIs,Ydd (V9 hr) I2 g kk l λs3 I3=>⟨.ref p,H2,I3,rfl,q2⟩⟩
theorem Ye9 (hr:aP k X.A) (ho:PE X o td) (hi:PE X i ty) (hv:PE X value tv) (hs:swapsWith value (some (.Subscript o i pos')) pos.line X.env=pure false) :
  PS X (.Assign [.Subscript o i pos'] value pos) (IV X.prog X.w X.K td ty tv):=by
 intro pins s σ H D I h;refine wpAny_Assign_Subscript (aA (hv pins s σ H _ I h) λr s1 ⟨v,H1,I1,rv,q1⟩=>aA (ho pins s1 σ H1 _ I1 q1) λu s2 ⟨x,H2,I2,rx,q2⟩=>aA (hi pins s2 σ H2 _ I2 q2) λiv s3 ⟨y,H3,I3,ry,a,b,xs,d,p,ev,ex,ey,g,kk,l,hl,q3⟩=>?_) hs;subst ex ey ev;obtain rfl:u=ae a:=rx;obtain rfl:iv=ae b:=ry;obtain rfl:r=ae p:=rv;exact Qp (V9 hr) I3 g kk l hl λs4 I4=>⟨σ,_,I4,q3⟩
theorem Yfa:PE X (.Dict [] [] pos) (Yhq X.prog X.w):=λpins s σ H Q I h =>
 wpAny_Dict_empty ⟨.ref s.heap.objs.size,_,I.laid (a:=s.heap.objs.size) (o:=cg X.prog X.w s.heap.objs.size []) (t':=s.toks) (λ_ _ q=>Ο _ q) (Κ _) (yW (beq_eq_false_iff_ne.mpr (ai (ο I.big))) ⟨_,#[],0,af _ rfl,⟨rfl,rfl,rfl⟩,rfl,rfl⟩),rfl,h _ (I.hok.fresh (Κ _))⟩
end
def X7 (H H':Hp):Prop:=∀ b xs,Rd H b (.tup xs)->Rd H' b (.tup xs)
theorem X7.sq {K:Θ} {H H':Hp} (t:X7 H H') {b:Addr} {xs:List V} (h:aJ K H b xs):aJ K H' b xs:=by
 rcases h with h | h
 ·exact .inl (t _ _ h)
 ·exact .inr h
theorem Wu {H H':Hp} (s:Yk H H'):X7 H H':=λb xs h=>by
 rcases h with h | ⟨o,h⟩
 ·exact .inl (s _ _ h)
 ·exact .inr ⟨o,s _ _ h⟩
theorem Wv {H H':Hp} {P:Addr} {u:HO} (hk:∀ b o,b≠P->H b=some o->H' b=some o) (hP:H P=some u) (h1:∀ xs,u ≠ .tup xs) (h2:∀ o v,u ≠ .eH o v):X7 H H':=λb xs h=>by
 rcases h with h | ⟨o,h⟩
 ·exact .inl (hk _ _ (Y8 h hP (λz=>h1 _ z.symm)) h)
 ·exact .inr ⟨o,hk _ _ (Y8 h hP (λz=>h2 _ _ z.symm)) h⟩
theorem Yfb {K:Θ} {H H':Hp} (t:X7 H H') {d:Γ} {v:V} (k:KO d) (r:Den K H v d):Den K H' v d:=by
 induction k using KO.rec (motive_2:=λds _=>∀ {vs:List V},bN K H vs ds->bN K H' vs ds) generalizing v with
 | int i=>cases r with | int _=>exact .int i
 | str x=>cases r with | str _ h=>exact .str x h
 | tup _ ih=>cases r with | tup h hs=>exact .tup (t.sq h) (ih hs)
 | nil=>rename_i r;cases r;exact .nil
 | cons _ _ ih ihs=>rename_i r;cases r with | cons a b=>exact .cons (ih a) (ihs b)
theorem DK.bO {K:Θ} {H H':Hp} {b:Addr} {d:Γ} (h:DK K H b d) (t:X7 H H'):DK K H' b d:=⟨Yfb t h.ko h.den,h.ko,h.dp⟩
theorem bC.keep {P:δ} {w:ι} {K:Θ} {H H':Hp} {a:Addr} {xs:Dx} (h:bC P w K H a xs) (t:X7 H H') (e:H' a=some (cg P w a xs)):bC P w K H' a xs:=⟨e,h.nd,h.len,λx hx=>(h.keys x hx).bO t⟩
theorem Yde {xs:Dx} {d:Γ} (h:aK xs d=none):d∉xs.map (·.1):=by
 intro hm;obtain ⟨x,hx,rfl⟩:=ac.mp hm;unfold aK at h;rw [Option.map_eq_none_iff,List.find?_eq_none] at h
 exact h x hx (by simp)
theorem WV (xs:Dx) (d e:Γ) (b p:Addr) (h:aK xs d=none):aK (xs++[(d,b,p)]) e=if e=d then some p else aK xs e:=by
 unfold aK;rw [List.find?_append];by_cases c:e=d
 ·subst c
  have h':xs.find? (λx=>decide (x.1=e))=none:=by
   unfold aK at h
   rwa [Option.map_eq_none_iff] at h
  rw [h',if_pos rfl];simp
 ·rw [if_neg c]
  have:([(d,b,p)]:Dx).find? (λx=>decide (x.1=e))=none:=by simp [ai c]
  rw [this];simp
theorem bC.put {P:δ} {w:ι} {K:Θ} {H:Hp} {a b p:Addr} {d:Γ} {xs:Dx} (h:bC P w K H a xs) (k:DK K H b d) (l:aK xs d=none) (hl:xs.length<1000):bC P w K (upd H a (cg P w a (xs++[(d,b,p)]))) a (xs++[(d,b,p)]):=by
 have t:X7 H (upd H a (cg P w a (xs++[(d,b,p)]))):=Wv (λb o hb e=>by rw [Ye hb];exact e) h.at_ (by intro xs z;cases z) (by intro o v z;cases z);refine ⟨Yb,?_,by rw [Μ,aE];omega,λx hx=>?_⟩
 ·rw [bc]
  refine ij.mpr ⟨h.nd,by simp,λx hx y hy e=>?_⟩;subst e;have:x=d:=by simpa using hy
  subst this;exact Yde l hx
 ·rcases a6.mp hx with hx | hx
  ·exact (h.keys x hx).bO t
  ·have:x=(d,b,p):=by simpa using hx
   subst this;exact k.bO t
theorem Yee {P:δ} {w:ι} {K:Θ} {H:Hp} {a:Addr} (h:H a=some (cg P w a [])):bC P w K H a []:=⟨h,by simp,by simp,λx hx=>by cases hx⟩
section
variable {X:Cx} {k:Nat}
theorem Ydf (hr:aP k X.A):bM X (dE .NotIn) (λy x H Q=>∃ a b xs d,x = .ref a/\y = .ref b/\bC X.prog X.w X.K H a xs/\DK X.K H b d/\Q (.bl (!(aK xs d).isSome)) H):=by
 intro pins s σ H y x u v Q I ry rx h;obtain ⟨a,b,xs,d,rfl,rfl,g,kk,q⟩:=h
 cases (show u=ae b from ry)
 cases (show v=ae a from rx)
 exact Ye7 (V9 hr) I g kk λs' I'=>⟨.bl (!(aK xs d).isSome),H,I',rfl,q⟩
end
section
variable {X:Cx} {e:Expr} {f:Str} {pos:Pos} {ta:TE}
theorem QL {K:Θ} (he:PE X e ta) (hb:gu e f X.env (eval e X.env)=eval e X.env) (h:X.K=K:=by rfl):PE X (.Attribute e f pos) (uP K ta f):=by subst h;exact Yx he hb
end
end L2
namespace L2
open PySem PySem.Spec PyProof.Rows
theorem Yhr {X:Cx} {g:Gx} {j k:Nat} {x:Str} {C:Addr} {ps:List Str} {sp:Sp} {p pos:Pos} (F:g.Ma j x C ps sp) (hr:aP k X.A) (hj:j+1<=k) (hX:X.gx=g) (hg:Gl X x) (hdb:(x==("__debug__":Str))=false) :
  PE X (.Call (.Name x p) [] [] pos) (Ut C sp [] E0 UM):=by
 subst hX;obtain ⟨f,fd,F,b,M,hm⟩:=F;exact YeS M F (hr.mono hj) hg hm b .nil Vh hdb
section
variable {M:Model} {A:ag} {E:Α->Ζ->Prop} {s:Ζ}
theorem YbF {scope:ci} {globals:Addr} {cl:List (Str×Addr)} {qual:Str} {outer:Env} {Q:Env->Ζ->Prop} {y:Str} (hcf:∀ n acc,ef n scope.names acc=(y,n)::acc)
  (h:∀ h',(∀ b o,s.heap.get? b=some o->h'.get? b=some o)->h'.Ns s.heap.objs.size (λ_=>none)->h'.IsCell (s.heap.objs.size+1) none->Q (newEnv scope s.heap.objs.size globals ((y,s.heap.objs.size+1)::cl) qual none .none (some outer) gm) { s with heap:=h' }) :
  Χ M A (newFunctionEnv scope globals cl [] qual none .none (some outer)) Q E s:=by
 obtain ⟨hh,g,d,t,os⟩:=s;unfold newFunctionEnv;refine Ι (wpAny_alloc' ?_);refine Ι (wpAny_forIn_list _ (λYG b s'=>(ef s'.heap.objs.size YG b=(y,hh.objs.size+1)::cl/\(∀ a o,(hh.push { cls := .type (if (some outer).isSome=true then "dict" else "frame"),data := .dict #[] }).get? a=some o->s'.heap.get? a=some o)/\(∃ own:List (Str×Addr),b=own++cl/\∀ p∈own,s'.heap.IsCell p.2 none)/\s'={ heap:=s'.heap,gens:=g,drawn:=d,toks:=t,os:=os })) _ ?_ ?_ _ _ ⟨?_,λ_ _ e=>e,⟨[],rfl,λp hp=>(by cases hp)⟩,rfl⟩)
 ·rintro ⟨nm,kd⟩ YG b s' ⟨h1,h2,⟨own,rfl,h3⟩,h4⟩
  rw [ef] at h1
  dsimp only;by_cases c:(kd==c9)=true
  ·rw [if_pos c] at h1 ⊢
   rw [h4];refine Ι (wpAny_alloc' (Ρ ⟨?_,λa o e=>Ο _ (h2 a o e),⟨(nm,s'.heap.objs.size)::own,rfl,λp hp=>?_⟩,rfl⟩))
   ·show ef (s'.heap.push _).objs.size YG _=_
    rw [i6];exact h1
   ·rcases Ν.mp hp with rfl | hp
    ·exact ⟨_,Heap.get?_push_at rfl rfl,rfl⟩
    ·obtain ⟨o,e1,e2⟩:=h3 p hp
     exact ⟨o,Ο _ e1,e2⟩
  ·rw [if_neg c] at h1 ⊢
   exact Ρ ⟨h1,h2,⟨own,rfl,h3⟩,h4⟩
 ·rintro b s' ⟨h1,h2,⟨own,rfl,h3⟩,h4⟩
  have h1:own++cl=(y,hh.objs.size+1)::cl:=by
   have:ef s'.heap.objs.size [] (own++cl)=own++cl:=by rw [ef]
   rw [<- this];exact h1
  have eo:own=[(y,hh.objs.size+1)]:=List.append_cancel_right (bs:=cl) (by simpa using h1);subst eo;rw [h4];exact Ι (Ρ (Ρ (h s'.heap (λb o e=>h2 b o (Ο _ e)) ((Heap.Ns.new hh _).keeps h2) (h3 _ (.head _)))))
 ·show ef (hh.push _).objs.size _ _=_
  rw [i6];exact hcf _ _
end
def d7 (X:Cx) (scope:ci) (N':List Str) (y:Str) (cl:List (Str×Addr)) (C:Addr) (s₀:Ζ) (H₀:Hp) (fp:List Addr) (pn:List (Addr×Obj)):Cx :=
 { X with N:=N',s₀:=s₀,H₀:=H₀,env:=df scope ((y,C+1)::cl) C X.env,outer:=X.stack,ex:=fp,fn:=λz=>z==y,pn:=pn,xe:=λ_ _=>False }
section
variable {X:Cx}
theorem Yef {y:Str} {scope:ci} {N':List Str} {src:List (Option Nat)} {cl:List (Str×Addr)} {pins:List (Addr×Obj)} {σ:St} {H:Hp} {s s':Ζ} {h':Heap} {tk:Nat} {fp:List Addr} {m:Str->Option Α}
  (hk:scope.kind = .function) (hyc:scope.names.lookup y=some .cell) (hone:∀ z∈scope.names,z.2 = .cell->z.1=y) (hcap:eO X scope src N')
  (a:∀ x c,cl.lookup x=some c->X.env.cells.lookup x=some c) (b:∀ x,(x,ρ)∈scope.names->∃ c,cl.lookup x=some c)
  (I:Inv X pins σ H s) (hf:∀ b∈fp,X2 X pins H b) (hfl:∀ b∈fp,b<s.heap.objs.size) (es':s'={ s with heap:=h',toks:=tk })
  (keep:∀ b o,s.heap.get? b=some o->h'.get? b=some o) (hn:h'.Ns s.heap.objs.size m) (hce:h'.IsCell (s.heap.objs.size+1) none) :
  Inv (d7 X scope N' y cl s.heap.objs.size s H fp (X.pn++pins)) [] (Yy src σ) H s':=by
 subst es';have kindOf:∀ x,(df scope ((y,s.heap.objs.size+1)::cl) s.heap.objs.size X.env).kindOf x=(scope.names.lookup x).map λk=>if (k==ρ&&X.env.scope.kind == .function&&X.env.kindOf x==some .cell) then c9 else k:=λx=>Wp X.env x
 have freeOf:∀ x,((df scope ((y,s.heap.objs.size+1)::cl) s.heap.objs.size X.env).kindOf x=some .cell\/(df scope ((y,s.heap.objs.size+1)::cl) s.heap.objs.size X.env).kindOf x=some .free)->scope.names.lookup x=some .free\/x=y:=λx h=>by
  rw [kindOf] at h
  cases q:scope.names.lookup x with
  | none=>rw [q] at h;simp at h
  | some k =>
   rw [q] at h
   by_cases hkf:k=ρ
   ·rw [hkf];exact .inl rfl
   ·have tW:(k==ρ)=false:=by simpa using hkf
    simp only [ez,tW,Bool.false_and,ek,if_false] at h;rcases h with h | h
    ·exact .inr (hone _ (bj q) (Δ h))
    ·exact absurd (Δ h) hkf
 have split:∀ {x:Str} {c:Addr},c6 x ((y,s.heap.objs.size+1)::cl)=some c->(x=y/\c=s.heap.objs.size+1)\/(x≠y/\cl.lookup x=some c):=λ{x c} h=>by
  rw [Υ] at h
  by_cases e:(x==y)=true
  ·rw [e] at h
   exact .inl ⟨by simpa using e,(Δ h).symm⟩
  ·rw [eL.mpr e] at h
   exact .inr ⟨by simpa using e,h⟩
 have old:∀ {x:Str} {c:Addr},cl.lookup x=some c->c<s.heap.objs.size:=λ{x c} h=>by
  obtain ⟨v,o,ho,_⟩:=I.cell x c (a x c h);exact Ψ ho
 have ny:∀ {x:Str},scope.names.lookup x=some .free->x≠y:=λh z=>by rw [z,hyc] at h;cases h
 have u9:∀ {x:Str} {c:Addr},x≠y->cl.lookup x=some c->c6 x ((y,s.heap.objs.size+1)::cl)=some c:=λ{x c} n h=>by
  rw [Υ,show (x==y)=false by simpa using n];exact h
 refine ⟨⟨I.ok.mod,hk,I.ok.glob,I.ok.blt,Κ _,λx z c h1 h2=>?_,λx hx=>?_,λx c z h=>?_,I.ok.hd,I.ok.frames,.inl rfl,λb' hb=>?_,I.bs,Τ I.ok.gA I.sz,λb' o e hb=>?_,λb' hb z=>?_,I.stack,I.jF⟩,
  rfl,I.bare,Un.kept keep,⟨m,hn,λj x v h1 h2 h3=>?_⟩,λx c h=>?_,I.hok.fresh (Κ _),λx c h=>?_,λp hp=>?_,I.hok.kept keep,?_⟩
 ·rcases split h1 with ⟨e1,e2⟩ | ⟨e1,e2⟩
  ·rcases split h2 with ⟨e3,_⟩ | ⟨_,e4⟩
   ·rw [e1,e3]
   ·have hlt:=old e4
    rw [e2] at hlt
    exact absurd hlt (jn.mpr (d5 _))
  ·rcases split h2 with ⟨_,e4⟩ | ⟨_,e4⟩
   ·have hlt:=old e2
    rw [e4] at hlt
    exact absurd hlt (jn.mpr (d5 _))
   ·exact I.ok.inj x z c (a x c e2) (a z c e4)
 ·rcases freeOf x hx with h | h
  ·obtain ⟨c,hc⟩:=b x (XV h)
   exact ⟨c,u9 (ny h) hc⟩
  ·subst h
   exact ⟨_,List.lookup_cons_self⟩
 ·rcases split h with ⟨_,e⟩ | ⟨e,_⟩
  ·rw [e]
   exact d5 _
  ·exact absurd (by simpa [d7] using z) e
 ·obtain ⟨f0,f1,f2,f3,f4,f5⟩:=hf b' hb
  refine ⟨ο (hfl b' hb),λx c h=>?_⟩;rcases split h with ⟨_,e⟩ | ⟨_,e⟩
  ·have hlt:=hfl b' hb
   rw [e];exact λz=>absurd (z▸hlt) (jn.mpr (d5 _))
  ·exact f4 x c (a x c e)
 ·obtain ⟨f0,f1,f2,f3,f4,f5⟩:=hf b' hb
  rcases f3 with z | z
  ·exact I.ok.jE b' o e z
  ·exact absurd (ξ (Ψ e) (Τ I.ok.gA z)) (cz _)
 ·obtain ⟨f0,f1,f2,f3,f4,f5⟩:=hf b' hb
  rcases Ν.mp (I.dM b' z) with e | e
  ·exact f1 e
  ·exact f2 e
 ·obtain ⟨i,e1,e2,e3,e4⟩:=hcap.get j x v h1 h2
  obtain ⟨m0,hn0,hl⟩:=I.loc;obtain ⟨u,r,l⟩:=hl i x v e1 e2 (by rcases e4 with e4 | e4;exact .inr (.inl e4);exact .inr (.inr e4));refine ⟨u,r,?_⟩;rcases l with ⟨l,_⟩ | ⟨k,c,e,z⟩
  ·have l':X.env.scope.names.lookup x=some gi.local:=l
   rcases e4 with e4 | e4<;>(rw [e4] at l';cases l')
  ·refine .inr ⟨?_,?_⟩
   ·show (df scope ((y,s.heap.objs.size+1)::cl) s.heap.objs.size X.env).kindOf x=some .cell\/(df scope ((y,s.heap.objs.size+1)::cl) s.heap.objs.size X.env).kindOf x=some .free
    rw [kindOf,e3];simp only [ez]
    split
    ·exact .inl rfl
    ·exact .inr rfl
   ·obtain ⟨c',hc'⟩:=b x (XV e3)
    have:=a x c' hc';rw [e] at this
    cases this
    obtain ⟨o,ho,hd⟩:=z;exact ⟨c,u9 (ny e3) hc',o,keep _ _ ho,hd⟩
 ·rcases split h with ⟨_,e⟩ | ⟨_,e⟩
  ·rw [e];exact ⟨none,hce⟩
  ·obtain ⟨v,o,ho,hd⟩:=I.cell x c (a x c e)
   exact ⟨v,o,keep _ _ ho,hd⟩
 ·rcases split h with ⟨_,e⟩ | ⟨_,e⟩
  ·rw [e];exact I.hok.fresh (d5 _)
  ·exact I.bK x c (a x c e)
 ·have hp':p∈X.pn++pins:=by simpa [d7] using hp
  obtain ⟨e,n,ne,nf,d⟩:=I.pin p hp';refine ⟨keep _ _ e,n,ο (Ψ e),λz=>?_,d⟩;rcases Ν.mp (I.dM p.1 z) with q | q
  ·exact ne q
  ·exact nf q
 ·show (Yy src σ).length=N'.length
  rw [<- hcap.length];simp [Yy]
end
section
variable {prog:δ} {w:ι} {A:ag} {R:Result->Ζ->Prop} {s:Ζ}
theorem Yeg {elt tg iter:Expr} {ifs:List Expr} {scope:ci} {pos:Pos} {it acc:Α} {env:Env} (J:Nat->Ζ->Prop)
  (turn:∀ n s,J n s->Χ (Ω prog w) A (pyNext it) (λr s₁=>match r with
    | none=>R (.ok .next) s₁
    | some v=>Χ (Ω prog w) A (fw tg it v) (λ_ z₁=>Χ (Ω prog w) A (assign tg env v) (λ_ s₂ =>
      Χ (Ω prog w) A (forIn ifs true λc r=>if r=true then do let ok <- isTrue c env (eval c env);pure (dq ok) else pure (dq r))
       (λok s₃=>if ok=true then Χ (Ω prog w) A (eval elt env) (λx s₄=>Χ (Ω prog w) A (call (.builtin "list.append") [acc,x]) (λ_ s₅=>∃ m,m<n/\J m s₅) (λ_ _=>False) s₄) (λ_ _=>False) s₃
        else ∃ m,m<n/\J m s₃) (λ_ _=>False) s₂) (λ_ _=>False) z₁) (λ_ _=>False) s₁) (λ_ _=>False) s)
  (n:Nat) (h:J n s):gv (Ω prog w) A (.compLoop (.ListComp elt [⟨tg,iter,ifs,0⟩] scope pos) 0 it acc env) R s:=by
 refine codeAny_loop rfl J (λn s hJ=>?_) n h
 show Χ _ A (Sem.onRaise (compTurn (.ListComp elt [⟨tg,iter,ifs,0⟩] scope pos) 0 it acc env) (λx=>do noteFrame x env;theTreesLotGoes x)) _ _ s
 refine wpAny_noted ?_;rw [compTurn_list];have no:∀ {E:Α->Ζ->Prop},∀ (e:Α) (s':Ζ),False->E e s':=λ_ _ f=>f.elim
 refine Ι (wpAny_standAt (Ι (a5 (turn n s hJ) (λr s₁ h₁=>?_) no)))
 cases r with
 | none=>exact Ρ h₁
 | some v =>
  refine Ι (a5 h₁ (λ_ z₁ hz=>?_) no);refine Ι (a5 hz (λ_ s₂ h₂=>Ι (a5 h₂ (λok s₃ h₃=>?_) no)) no)
  cases ok with
  | false=>exact Ρ ⟨rfl,h₃⟩
  | true =>
   exact Ι (Ι (a5 h₃ (λx s₄ h₄=>Ι (a5 h₄ (λ_ s₅ h₅=>Ρ (Ρ ⟨rfl,h₅⟩)) no)) no))
end
section
variable {X:Cx}
theorem Yhs {yc:Str} {elt tg iter:Expr} {ifs:List Expr} {scope:ci} {pos:Pos} {src:List (Option Nat)} {N':List Str} {wi:TI} {g:TG} {tt:TT} {te:TE} (hcap:eO X scope src N') (hc:X.calm=true) (hi:PI X tg iter wi)
  (hg:∀ cl C s₀ H₀ fp pn,PG (d7 X scope N' yc cl C s₀ H₀ fp pn) tg g) (ht:∀ cl C s₀ H₀ fp pn,m7 (d7 X scope N' yc cl C s₀ H₀ fp pn) ifs tt) (he:∀ cl C s₀ H₀ fp pn,PE (d7 X scope N' yc cl C s₀ H₀ fp pn) elt te)
  (hfree:∀ x,(x,ρ)∈scope.names->X.env.scope.names.lookup x=some c9\/X.env.scope.names.lookup x=some ρ)
  (hk:scope.kind = .function) (hcf:∀ n acc,ef n scope.names acc=(yc,n)::acc) (hyc:scope.names.lookup yc=some .cell) (hone:∀ z∈scope.names,z.2 = .cell->z.1=yc) (hnames:∀ y∈scope.names,y.2 = .local->scope.names.lookup y.1=some .local)
  (hs:∀ x,ii iter X.env x=pure x):PE X (.ListComp elt [⟨tg,iter,ifs,0⟩] scope pos) (cW src wi g tt te):=by
 intro pins s σ H Q I h;have no:∀ {E:Α->Ζ->Prop},∀ (e:Α) (s':Ζ),False->E e s':=λ_ _ f=>f.elim
 obtain ⟨cl,hcl,a,b⟩:=VG X.env scope λx hx=>I.ok.has x (hfree x hx)
 rw [eval_ListComp];refine wpAny_comprehension_free (use:=none) rfl hs hcl hk hnames (aA (hi pins s σ H _ I h) λv s1 h1=>aA h1 λitv s2 h2=>?_);obtain ⟨it,fp,tn,J,H2,e,I2,T,st2,f2,q⟩:=h2;subst e;have hD:H2 s2.heap.objs.size=none:=I2.hok.fresh (Κ _);obtain ⟨W,⟨m0,w0⟩,turn⟩:=q s2.heap.objs.size hD;have I3:=I2.tQ (t':=s2.toks) (ys:=[]) (its:=[]) .nil (ν _);have yr:∀ b∈fp,b<s2.heap.objs.size:=λb hb=>by
  obtain ⟨o,e,_⟩:=T.obj _ _ st2 b hb;exact Ψ e
 refine bp ?_;generalize p7:({ s2 with heap:=s2.heap.push { cls := .type "list",dict:=none,data := .seq ([]:List Α).toArray } }:Ζ)=s3;have jk:Inv X pins σ (upd H2 s2.heap.objs.size (.lst [])) s3:=p7▸I3
 have oJ:∀ b o,s2.heap.get? b=some o->s3.heap.get? b=some o:=λb o e=>by rw [<- p7];exact Ο _ e
 have st3:tn 0 s3.heap:=T.keep _ _ _ st2 λb _ o e=>oJ b o e
 have m8:∀ b∈fp,b<s3.heap.objs.size:=λb hb=>by
  obtain ⟨o,e,_⟩:=T.obj _ _ st3 b hb;exact Ψ e
 have f3:∀ b∈fp,X2 X pins (upd H2 s2.heap.objs.size (.lst [])) b:=λb hb=>⟨by rw [Ye (ο (yr b hb))];exact (f2 b hb).1,(f2 b hb).2⟩
 generalize eD:s2.heap.objs.size=D at *;generalize eH3:upd H2 D (.lst [])=H3 at *;refine YbF hcf λh₁ f9 hns₁ yX=>?_
 have I4:=Yef (N':=N') (src:=src) (tk:=s3.toks) hk hyc hone hcap a b jk f3 m8 rfl f9 hns₁ yX
 -- the iterator's objects,through the block
 have stat:∀ {H':Hp},(∀ b∈fp,H' b=none)->∀ b∈fp,X2 (d7 X scope N' yc cl s3.heap.objs.size s3 H3 fp (X.pn++pins)) [] H' b:=λhn b' hb=>by
  obtain ⟨f0,f1,fs,fe,f4,f5⟩:=f3 b' hb;refine ⟨hn b' hb,ο (m8 b' hb),λz=>?_,.inl hb,λx c h=>?_,λp hp=>f5 p (by simpa [d7] using hp)⟩
  rotate_left
  ·have h:c6 x ((yc,s3.heap.objs.size+1)::cl)=some c:=h
   rw [Υ] at h
   by_cases e:(x==yc)=true
   ·rw [e] at h
    have h:=Δ h;have hlt:=m8 b' hb;rw [<- h];exact λz=>absurd (z▸hlt) (jn.mpr (d5 _))
   ·rw [eL.mpr e] at h
    exact f4 x c (a x c h)
  rcases Ν.mp (jk.dM b' z) with e | e
  ·exact f1 e
  ·exact fs e
 -- behind the block
 have fin:∀ {H':Hp} {s':Ζ} {σ':St} {dJ:List (Addr×Obj)},Inv (d7 X scope N' yc cl s3.heap.objs.size s3 H3 fp (X.pn++pins)) dJ σ' H' s'->∀ h',bP s3.heap.objs.size s'.heap h'->Inv X pins σ H' { s' with heap:=h' }:=λ{H' s' σ' dJ} J' h' sb=>by
  have same:∀ b o,b≠s3.heap.objs.size->s'.heap.get? b=some o->h'.get? b=some o:=λb o hb e=>sb.extBut b o hb e
  have u:Un (frs X.stack) fp H3 H' s3.heap s'.heap:=J'.base;refine jk.call' (s':={ s' with heap:=h' }) (ch:=fp) J'.os ⟨λb o e n hb hx=>?_,λb o e n hb hx=>?_,u.free,λb o e hx=>?_,u.tups,u.dB,u.dF⟩ (λb o e=>?_) J'.bare λb hb=>?_
  ·exact same b o (ο (Ψ e)) (u.keep b o e n hb hx)
  ·obtain ⟨sl,z⟩:=u.slot b o e n hb hx
   exact ⟨sl,same b _ (ο (Ψ e)) z⟩
  ·obtain ⟨o',z⟩:=u.there b o e hx
   exact ⟨o',same b o' (ο (Ψ e)) z⟩
  ·have nC:∀ c v,H' c=some v->c≠s3.heap.objs.size:=λc v z q=>by
    have:=J'.free;rw [show (d7 X scope N' yc cl s3.heap.objs.size s3 H3 fp (X.pn++pins)).env.locals=s3.heap.objs.size from rfl,<- q,z] at this
    cases this
   refine (J'.hok b o e).stay (λc v hc q=>same c v ?_ q) (λ_ q=>q) λ_ _ q=>q
   rcases hc with z | z
   ·rw [z];exact nC b o e
   ·exact nC c _ z
  ·obtain ⟨f0,f1,fs,fe,f4,f5⟩:=f3 b hb
   exact ⟨fe,f1,f4,f5⟩
 have loop:gv (Ω X.prog X.w) X.A (.compLoop (.ListComp elt [⟨tg,iter,ifs,0⟩] scope pos) 0 (.ref it) (.ref D) (df scope ((yc,s3.heap.objs.size+1)::cl) s3.heap.objs.size X.env))
   (compPost (Ω X.prog X.w) X.A X.xe none (EP X pins σ Q) (.ref D) s3.heap.objs.size) { s3 with heap:=h₁ }:=by
  refine Yeg (λn s'=>∃ i ys σ' H',Inv (d7 X scope N' yc cl s3.heap.objs.size s3 H3 fp (X.pn++pins)) [] σ' H' s'/\tn i s'.heap/\(∀ b∈fp,H' b=none)/\W i n ys σ' H') ?_ m0 ⟨0,[],Yy src σ,H3,I4,T.keep _ _ _ st3 λb _ o e=>f9 b o e,λb hb=>(f3 b hb).1,w0⟩;rintro n s5 ⟨i,ys,jl,H5,I5,jf,kY,w5⟩;obtain ⟨hDs,stop | go⟩:=turn i n ys jl H5 w5
  ·obtain ⟨stop,qn⟩:=stop
   refine aA (T.done (d7 X scope N' yc cl s3.heap.objs.size s3 H3 fp (X.pn++pins)) rfl rfl rfl hc i [] s5 jl H5 _ I5 (stat kY) jf stop) λr s6 ⟨hr,I6⟩=>?_
   subst hr;obtain ⟨m,hn,_⟩:=id I6.loc;exact ⟨m,hn,λh' sb=>⟨.ref D,H5,fin I6 h' sb,rfl,qn⟩⟩
  ·obtain ⟨go,N,hN,step⟩:=go
   refine aA (T.item (d7 X scope N' yc cl s3.heap.objs.size s3 H3 fp (X.pn++pins)) rfl rfl rfl hc i [] s5 jl H5 _ I5 (stat kY) jf go) λr s6 ⟨u,hr,h6⟩=>?_
   subst hr;refine aA h6 λ_ s7 ⟨x,H7,I7,r7,y7,lg,yt⟩=>?_
   have yu:=I7.pinned (stat yt) (T.obj _ _ lg);have again:∀ {s8:Ζ} {dN:St} {H8:Hp} {ys':List V},Inv (d7 X scope N' yc cl s3.heap.objs.size s3 H3 fp (X.pn++pins)) ([]++Vr fp s7.heap) dN H8 s8->(∃ m',m'<n/\W (i+1) m' ys' dN H8) ->
     ∃ m,m<n/\∃ i ys σ' H',Inv (d7 X scope N' yc cl s3.heap.objs.size s3 H3 fp (X.pn++pins)) [] σ' H' s8/\tn i s8.heap/\(∀ b∈fp,H' b=none)/\W i m ys σ' H':=λ{s8 dN H8 ys'} I8 ⟨m',hm,w8⟩=>by
    refine ⟨m',hm,i+1,ys',dN,H8,I8.dH,T.keep _ _ _ lg λb hb o e=>(I8.pin (b,o) (υ _ (υ _ (XM hb e)))).1,λb hb=>?_,w8⟩;obtain ⟨o,e,d⟩:=T.obj _ _ lg b hb;exact (I8.pin (b,o) (υ _ (υ _ (XM hb e)))).2.1
   refine aA (hg cl _ s3 H3 fp _ _ s7 jl H7 x u _ yu r7 (step x H7 y7)) λ_ s8 ⟨dN,H8,I8,q8⟩=>?_
   refine aA (ht cl _ s3 H3 fp _ _ s8 dN H8 _ I8 q8) λok s9 ⟨H9,I9,q9⟩=>?_
   cases ok with
   | false=>exact again I9 (hN _ _ _ q9)
   | true =>
    rw [if_pos rfl];refine aA (he cl _ s3 H3 fp _ _ s9 dN H9 _ I9 q9) λy bU ⟨yv,p8,yC,r10,yw⟩=>?_
    obtain ⟨lq,hlen,w10⟩:=yw;refine aA (XJ (X:=d7 X scope N' yc cl s3.heap.objs.size s3 H3 fp (X.pn++pins)) _ bU dN p8 (.ref D) [yv] (.ref D) [y] (λ_ H'=>H'=upd p8 D (.lst (ys++[yv]))) yC rfl (.cons r10 .nil) ⟨ys,lq,hlen,rfl⟩) λ_ s11 ⟨_,H11,yD,_,yE⟩=>?_
    subst yE;exact again yD (hN _ _ _ w10)
 exact codeAny_compStart_list loop (T.self _ 0 _ _ _ (T.keep _ _ _ st3 λb _ o e=>f9 b o e) loop)
end
end L2
namespace PySem.W
open PySem PyProof.Rows
abbrev excFs (a0:Α):Array Value:=#[a0,.none,.none,.none,.bool false,.none]
end PySem.W
namespace L2
open PySem PySem.Spec PyProof.Rows
open PySem.W (excFs)
def del (H:Hp) (a:Addr):Hp:=λb=>if b=a then none else H b
end L2
namespace L2
open PySem
mutual
inductive DL (H:Hp):V->Γ->List Addr->Prop
 | non:DL H .non .none []
 | bl (b:Bool):DL H (.bl b) (.bool b) []
 | int (i:Int):DL H (.int i) (.int i) []
 | str (x:Str) (h:bu x=true):DL H (.str x) (.str x) []
 | lst {a:Addr} {vs:List V} {ds:List Γ} {L:List Addr}:H a=some (.lst vs)->vs.length<=10000->bI H vs ds L->DL H (.ref a) (.list ds) (a::L)
 | tup {a:Addr} {vs:List V} {ds:List Γ} {L:List Addr}:H a=some (.tup vs)->vs.length<=10000->bI H vs ds L->DL H (.ref a) (.tuple ds) L
inductive bI (H:Hp):List V->List Γ->List Addr->Prop
 | nil:bI H [] [] []
 | cons {v:V} {d:Γ} {L:List Addr} {vs:List V} {ds:List Γ} {L':List Addr}:DL H v d L->bI H vs ds L'->bI H (v::vs) (d::ds) (L++L')
end
mutual
theorem DL.cH {H H':Hp} (t:m9 H H'):∀ {v:V} {d:Γ} {L:List Addr},DL H v d L->(∀ a∈L,∀ vs,H a=some (.lst vs)->H' a=some (.lst vs))->DL H' v d L
 | _,_,_,.non,_ => .non
 | _,_,_,.bl b,_ => .bl b
 | _,_,_,.int i,_ => .int i
 | _,_,_,.str x h,_ => .str x h
 | _,_,_,.lst h hn hs,e => .lst (e _ (.head _) _ h) hn (hs.cH t λa ha=>e a (.tail _ ha))
 | _,_,_,.tup h hn hs,e => .tup (t _ _ h) hn (hs.cH t e)
theorem bI.cH {H H':Hp} (t:m9 H H'):∀ {vs:List V} {ds:List Γ} {L:List Addr},bI H vs ds L->(∀ a∈L,∀ vs,H a=some (.lst vs)->H' a=some (.lst vs))->bI H' vs ds L
 | _,_,_,.nil,_ => .nil
 | _,_,_,.cons h hs,e => .cons (h.cH t λa ha=>e a (gt _ ha)) (hs.cH t λa ha=>e a (υ _ ha))
end
theorem bI.keep {H H':Hp} {vs:List V} {ds:List Γ} {L:List Addr} (h:bI H vs ds L) (s:Yk H H'):bI H' vs ds L:=h.cH s.tps λa _ vs e=>s _ _ e
mutual
theorem DL.mem {H:Hp}:∀ {v:V} {d:Γ} {L:List Addr},DL H v d L->∀ a∈L,∃ vs,H a=some (.lst vs)/\vs.length<=10000
 | _,_,_,.lst (a:=b) h hn hs,a,ha=>by
  rcases Ν.mp ha with e | ha
  ·subst e;exact ⟨_,h,hn⟩
  ·exact hs.mem a ha
 | _,_,_,.tup h hn hs,a,ha=>hs.mem a ha
theorem bI.mem {H:Hp}:∀ {vs:List V} {ds:List Γ} {L:List Addr},bI H vs ds L->∀ a∈L,∃ vs,H a=some (.lst vs)/\vs.length<=10000
 | _,_,_,.cons h hs,a,ha=>by
  rcases a6.mp ha with ha | ha
  ·exact h.mem a ha
  ·exact hs.mem a ha
end
mutual
theorem DL.den {K:Θ} {H:Hp}:∀ {v:V} {d:Γ} {L:List Addr},DL H v d L->Den K H v d
 | _,_,_,.non => .non
 | _,_,_,.bl b => .bl b
 | _,_,_,.int i => .int i
 | _,_,_,.str x h => .str x h
 | _,_,_,.lst h _ hs => .lst (au.of h) hs.den
 | _,_,_,.tup h _ hs => .tup (aJ.of h) hs.den
theorem bI.den {K:Θ} {H:Hp}:∀ {vs:List V} {ds:List Γ} {L:List Addr},bI H vs ds L->bN K H vs ds
 | _,_,_,.nil => .nil
 | _,_,_,.cons h hs => .cons h.den hs.den
end
theorem bI.length {H:Hp}:∀ {vs:List V} {ds:List Γ} {L:List Addr},bI H vs ds L->vs.length=ds.length
 | _,_,_,.nil=>rfl
 | _,_,_,.cons _ hs=>congrArg (·+1) hs.length
theorem bI.at {H:Hp}:∀ {vs:List V} {ds:List Γ} {L:List Addr} {i:Nat} {v:V},bI H vs ds L->vs[i]?=some v->∃ d L',ds[i]?=some d/\DL H v d L'
 | _,_,_,0,v,.cons a _,h=>by
  have:_=v:=Δ h;subst this;exact ⟨_,_,rfl,a⟩
 | _,_,_,i+1,v,.cons _ b,h=>b.at (i:=i) h
theorem bI.append {H:Hp} {vs':List V} {ds':List Γ} {L':List Addr}:∀ {vs:List V} {ds:List Γ} {L:List Addr},bI H vs ds L->bI H vs' ds' L'->bI H (vs++vs') (ds++ds') (L++L')
 | _,_,_,.nil,h=>h
 | _,_,_,.cons a b,h=>by rw [cE];exact .cons a (b.append h)
theorem DL.one {H:Hp} {v:V} {d:Γ} {L:List Addr} (h:DL H v d L):bI H [v] [d] L:=by
 have:=bI.cons h .nil
 rwa [a8] at this
structure fQ (H0 H:Hp) (v:V) (d:Γ) (L:List Addr):Prop where
 vl:DL H v d L
 nd:L.Nodup
 new:∀ a∈L,H0 a=none
structure jG (H0 H:Hp) (vs:List V) (ds:List Γ) (L:List Addr):Prop where
 vl:bI H vs ds L
 nd:L.Nodup
 new:∀ a∈L,H0 a=none
theorem jG.put {H0 H1 H2:Hp} {vs:List V} {ds:List Γ} {L L':List Addr} {y:V} {d:Γ} {D:Addr} {zs zs':List V} (h:jG H0 H1 vs ds L) (hD:∀ a∈L,a≠D) (s0:Yk H0 H1) (s:Yk H1 H2) (o:fQ H1 H2 y d L') (h1:H1 D=some (.lst zs)):jG H0 (upd H2 D (.lst zs')) (vs++[y]) (ds++[d]) (L++L')/\∀ a∈L++L',a≠D:=by
 have hD':∀ a∈L',a≠D:=λa ha e=>by have:=o.new a ha;rw [e,h1] at this;cases this
 have t:m9 H2 (upd H2 D (.lst zs')) := .wF (s _ _ h1);refine ⟨⟨((h.vl.keep s).cH t λa ha vs e=>by rw [Ye (hD a ha)];exact e).append ((o.vl.cH t λa ha vs e=>by rw [Ye (hD' a ha)];exact e).one),?_,λa ha=>?_⟩,λa ha=>?_⟩
 ·refine ij.mpr ⟨h.nd,o.nd,λa ha b hb e=>?_⟩
  subst e;obtain ⟨vs,e1,_⟩:=h.vl.mem a ha;rw [o.new a hb] at e1
  cases e1
 ·rcases a6.mp ha with ha | ha
  ·exact h.new a ha
  ·exact s0.free (o.new a ha)
 ·rcases a6.mp ha with ha | ha
  ·exact hD a ha
  ·exact hD' a ha
theorem fQ.inv {H0 H:Hp} {D:Addr} {ds:List Γ} {L:List Addr} (h:fQ H0 H (.ref D) (.list ds) L):∃ ys L1,L=D::L1/\H D=some (.lst ys)/\ys.length<=10000/\jG H0 H ys ds L1/\D∉L1/\H0 D=none:=by
 obtain ⟨vl,nd,new⟩:=h
 cases vl with
 | lst h1 h2 h3 =>
  have:=aI.mp nd;exact ⟨_,_,rfl,h1,h2,⟨h3,this.2,λa ha=>new a (.tail _ ha)⟩,this.1,new _ (.head _)⟩
section
variable {src:List (Option Nat)} {te:TE} {σ:St} {H:Hp} {Q:VK}
theorem IW {J:It} {P:Hp->Prop} {xs:List V} (hJ:X4 J P xs) {H1:Hp} {D:Addr} (ds:List Γ) (hP:∀ H',Yk H1 H'->P H') (hD:H1 D=none) (hl:ds.length=xs.length) (hlen:xs.length<=10000)
  (step:∀ (i:Nat) x d H',xs[i]?=some x->ds[i]?=some d->Yk H1 H'->∀ R:VK,(∀ y aG L,Yk H' aG->fQ H' aG y d L->R y aG)->te (some x::Yy src σ) H' R)
  (fin:∀ (ys:List V) H' L,Yk H1 H'->fQ H1 H' (.ref D) (.list ds) L->Q (.ref D) H'):LC (none::src) J (Yv 0) XF te σ H1 Q D:=by
 have h6:100000<sizeLine:=by decide
 refine WR hJ (λi zs σ' H'=>zs.length=i/\(∃ o,σ'=o::Yy src σ)/\Yk H1 H'/\H' D=some (.lst zs)/\∃ L,jG H1 H' zs (ds.take i) L/\∀ a∈L,a≠D)
  ⟨rfl,⟨none,rfl⟩,.aj hD _,Yb,[],⟨by simp;exact .nil,.nil,λa h=>by cases h⟩,λa h=>by cases h⟩ (λi zs σ' H' ⟨_,_,p1,p2,_⟩=>⟨hP _ p1,p2⟩) (XQ 0) ?_ ?_
 ·rintro i zs σ' H' x hx ⟨hi',⟨o,rfl⟩,sm,hd,L,hL,hLD⟩
  have hi:=(Η.mp hx).1;have hdi:ds[i]?=some (ds[i]'(by omega)):=Ε _
  show te (some x::Yy src σ) H' _
  refine step i x _ H' hx hdi sm _ λy aG L' s2 hy=>⟨s2 _ _ hd,by omega,by simp [hi'],⟨_,rfl⟩,.cu hD (sm.trans s2) _,Yb,L++L',?_⟩
  rw [YT hdi];exact hL.put hLD sm s2 hy hd
 ·rintro zs σ' H' ⟨hn,_,sm,hd,L,hL,hLD⟩
  rw [<- hl,bz] at hL
  refine fin zs H' (D::L) sm ⟨.lst hd (by omega) hL.vl,aI.mpr ⟨λh=>hLD _ h rfl,hL.nd⟩,λa ha=>?_⟩;rcases Ν.mp ha with e | ha
  ·subst e;exact hD
  ·exact hL.new a ha
theorem YgE {K:Θ} {tl:TE} {xs:List V} {b:Addr} (ds:List Γ) (ha:∀ R:V->Hp->Prop,R (.ref b) H->tl σ H R) (hS:au K H b xs) (hl:ds.length=xs.length) (hlen:xs.length<=10000)
  (step:∀ (i:Nat) x d H',xs[i]?=some x->ds[i]?=some d->Yk H H'->∀ R:VK,(∀ y aG L,Yk H' aG->fQ H' aG y d L->R y aG)->te (some x::Yy src σ) H' R)
  (fin:∀ D H' L,Yk H H'->fQ H H' (.ref D) (.list ds) L->Q (.ref D) H'):cW (none::src) (Wf K tl) (Yv 0) XF te σ H Q :=
 ha _ ⟨b,rfl,⟨xs,hS⟩,λD hD=>IW (XO.imp λH' (e:Yk H H')=>e.seq hS) ds (λ_ e=>e) hD hl hlen step λ_ H' L sm=>fin D H' L sm⟩
theorem Yfc {K:Θ} {tl:TE} {xs:List V} {b:Addr} (ds:List Γ) (ha:∀ R:V->Hp->Prop,R (.ref b) H->tl σ H R) (hS:aJ K H b xs) (hl:ds.length=xs.length) (hlen:xs.length<=10000)
  (step:∀ (i:Nat) x d H',xs[i]?=some x->ds[i]?=some d->Yk H H'->∀ R:VK,(∀ y aG L,Yk H' aG->fQ H' aG y d L->R y aG)->te (some x::Yy src σ) H' R)
  (fin:∀ D H' L,Yk H H'->fQ H H' (.ref D) (.list ds) L->Q (.ref D) H'):cW (none::src) (uL K tl) (Yv 0) XF te σ H Q :=
 ha _ ⟨b,rfl,⟨xs,hS⟩,λD hD=>IW (Hq.imp λH' (e:Yk H H')=>e.tup hS) ds (λ_ e=>e) hD hl hlen step λ_ H' L sm=>fin D H' L sm⟩
end
def Ja:Γ->String
 | .none=>"NoneType"
 | .bool _=>"bool"
 | .int _=>"int"
 | .str _=>"str"
 | .list _=>"list"
 | .tuple _=>"tuple"
 | .dict _=>"dict"
theorem Et {K:Θ} {H:Hp} {v:V} {d:Γ} {L:List Addr} (h:DL H v d L):cJ K H v (.type (Ja d)):=by
 cases h with
 | non=>exact .non
 | bl b=>exact .bl b
 | int i=>exact .int i
 | str x h=>exact .str _
 | lst h=>exact .lst h
 | tup h=>exact .tup h
theorem VJ {H:Hp} {v:V} {d:Γ} (h:DL H v d []):fQ H H v d []:=⟨h,.nil,λa h=>by cases h⟩
theorem YgF {H H':Hp} {ys:List V} {ds:List Γ} {L:List Addr} {p:Addr} (h:jG H H' ys ds L) (hl:ys.length<=10000) (hp:H' p=none):fQ H (upd H' p (.tup ys)) (.ref p) (.tuple ds) L:=⟨.tup Yb hl (h.vl.keep (.aj hp _)),h.nd,h.new⟩
def Kt (H H':Hp):Prop:=∀ a o,(∀ ps,o ≠ .bD ps)->H a=some o->H' a=some o
theorem Jb {H H':Hp} (s:Yk H H'):Kt H H':=λc o _ e=>s _ _ e
theorem Kt.lst {H H':Hp} (h:Kt H H') {a:Addr} {xs:List V} (e:H a=some (.lst xs)):H' a=some (.lst xs):=h a _ (by intro ps z;cases z) e
theorem Kt.tup {H H':Hp} (h:Kt H H') {a:Addr} {xs:List V} (e:H a=some (.tup xs)):H' a=some (.tup xs):=h a _ (by intro ps z;cases z) e
theorem DL.kt {H H':Hp} {v:V} {d:Γ} {L:List Addr} (h:DL H v d L) (s:Kt H H'):DL H' v d L:=h.cH (λa vs e=>s.tup e) λa _ vs e=>s.lst e
theorem bI.kt {H H':Hp} {v:List V} {d:List Γ} {L:List Addr} (h:bI H v d L) (s:Kt H H'):bI H' v d L:=h.cH (λa vs e=>s.tup e) λa _ vs e=>s.lst e
def DV (H:Hp) (v:V) (d:Γ):Prop:=∃ L,DL H v d L
def aY (H:Hp) (vs:List V) (ds:List Γ):Prop:=∃ L,bI H vs ds L
theorem DV.kt {H H':Hp} {v:V} {d:Γ} (h:DV H v d) (s:Kt H H'):DV H' v d:=by obtain ⟨L,h⟩:=h;exact ⟨L,h.kt s⟩
theorem DV.keep {H H':Hp} {v:V} {d:Γ} (h:DV H v d) (s:Yk H H'):DV H' v d:=h.kt (Jb s)
theorem aY.kt {H H':Hp} {v:List V} {d:List Γ} (h:aY H v d) (s:Kt H H'):aY H' v d:=by obtain ⟨L,h⟩:=h;exact ⟨L,h.kt s⟩
theorem aY.keep {H H':Hp} {v:List V} {d:List Γ} (h:aY H v d) (s:Yk H H'):aY H' v d:=h.kt (Jb s)
theorem aY.nil {H:Hp}:aY H [] []:=⟨[],.nil⟩
theorem aY.cons {H:Hp} {v:V} {d:Γ} {vs:List V} {ds:List Γ} (h:DV H v d) (hs:aY H vs ds):aY H (v::vs) (d::ds):=by
 obtain ⟨L,h⟩:=h;obtain ⟨L',hs⟩:=hs;exact ⟨_,.cons h hs⟩
theorem aY.inv {H:Hp} {v:V} {d:Γ} {vs:List V} {ds:List Γ} (h:aY H (v::vs) (d::ds)):DV H v d/\aY H vs ds:=by
 obtain ⟨L,h⟩:=h
 cases h with
 | cons a b=>exact ⟨⟨_,a⟩,⟨_,b⟩⟩
theorem aY.length {H:Hp} {vs:List V} {ds:List Γ} (h:aY H vs ds):vs.length=ds.length:=by obtain ⟨L,h⟩:=h;exact h.length
theorem aY.at {H:Hp} {vs:List V} {ds:List Γ} {i:Nat} {v:V} (h:aY H vs ds) (e:vs[i]?=some v):∃ d,ds[i]?=some d/\DV H v d:=by
 obtain ⟨L,h⟩:=h;obtain ⟨d,L',e1,e2⟩:=h.at e;exact ⟨d,e1,_,e2⟩
theorem aY.append {H:Hp} {vs vs':List V} {ds ds':List Γ} (h:aY H vs ds) (h':aY H vs' ds'):aY H (vs++vs') (ds++ds'):=by
 obtain ⟨L,h⟩:=h;obtain ⟨L',h'⟩:=h';exact ⟨_,h.append h'⟩
theorem DV.lst {H:Hp} {a:Addr} {vs:List V} {ds:List Γ} (h:H a=some (.lst vs)) (hn:vs.length<=10000) (hs:aY H vs ds):DV H (.ref a) (.list ds):=by obtain ⟨L,hs⟩:=hs;exact ⟨_,.lst h hn hs⟩
theorem DV.tup {H:Hp} {a:Addr} {vs:List V} {ds:List Γ} (h:H a=some (.tup vs)) (hn:vs.length<=10000) (hs:aY H vs ds):DV H (.ref a) (.tuple ds):=by obtain ⟨L,hs⟩:=hs;exact ⟨_,.tup h hn hs⟩
theorem DV.lB {H:Hp} {v:V} {ds:List Γ} (h:DV H v (.list ds)):∃ a vs,v = .ref a/\H a=some (.lst vs)/\vs.length<=10000/\aY H vs ds:=by
 obtain ⟨L,h⟩:=h
 cases h with
 | lst a b c=>exact ⟨_,_,rfl,a,b,_,c⟩
theorem DV.oN {H:Hp} {v:V} {ds:List Γ} (h:DV H v (.tuple ds)):∃ a vs,v = .ref a/\H a=some (.tup vs)/\vs.length<=10000/\aY H vs ds:=by
 obtain ⟨L,h⟩:=h
 cases h with
 | tup a b c=>exact ⟨_,_,rfl,a,b,_,c⟩
theorem DV.tX {H:Hp} {v:V} {i:Int} (h:DV H v (.int i)):v = .int i:=by obtain ⟨L,h⟩:=h;cases h;rfl
theorem DV.yZ {H:Hp} {v:V} {b:Bool} (h:DV H v (.bool b)):v = .bl b:=by obtain ⟨L,h⟩:=h;cases h;rfl
theorem DV.tY {H:Hp} {v:V} {x:Str} (h:DV H v (.str x)):v = .str x/\bu x=true:=by obtain ⟨L,h⟩:=h;cases h;exact ⟨rfl,‹_›⟩
theorem DV.ty {K:Θ} {H:Hp} {v:V} {d:Γ} (h:DV H v d):cJ K H v (.type (Ja d)):=by obtain ⟨L,h⟩:=h;exact Et h
theorem DV.den {K:Θ} {H:Hp} {v:V} {d:Γ} (h:DV H v d):Den K H v d:=by obtain ⟨L,h⟩:=h;exact h.den
end L2
namespace HT
open PySem PySem.Spec PyProof.Rows
variable {prog:δ} {w:ι} {A:ag} {E:Α->Ζ->Prop} {s:Ζ}
theorem Yfd (items:Array Α):((ζ items.size).filterMap λ(m:Nat)=>items[(((items.size:Int) - 1)+(m:Int)*(-1)).toNat]?).toArray=items.toList.reverse.toArray:=by
 have key:∀ (n:Nat),n<=items.size->((ζ n).filterMap λ(m:Nat)=>items[(((items.size:Int) - 1)+(m:Int)*(-1)).toNat]?)=items.toList.reverse.take n:=by
  intro n
  induction n with
  | zero=>intro _;simp
  | succ n ih =>
   intro hn;rw [dn,gh,ih (by omega)];have e:(((items.size:Int) - 1)+(n:Int)*(-1)).toNat=items.size - 1 - n:=by omega
   have hx:items.toList.reverse[n]?=some (items[items.size - 1 - n]'(by omega)):=by
    rw [List.getElem?_reverse (by simp;omega)];simp
   rw [L2.YT hx,gz,e];have hlt:items.size - 1 - n<items.size:=by omega
   simp [hlt]
 rw [key items.size (Κ _),am (by simp)]
theorem iz {t sl:Addr} {items:Array Α} {tk:Tok} {Q:Α->Ζ->Prop} (ht:IsTup s.heap t items) (hs:s.heap.IsSliceOf sl .none .none (.int (-1) tk))
  (h:Q (.ref s.heap.objs.size) { s with heap:=s.heap.push { cls := .type "tuple",data := .seq items.toList.reverse.toArray } })
  (hsz:items.size<=sizeLine):Χ (Ω prog w) A (fq (.ref t) (.ref sl)) Q E s:=by
 have eF:sizeOk (.seq items.toList.reverse.toArray):=by
  show items.toList.reverse.toArray.size<=sizeLine
  rw [ψ,b7,gE];exact hsz
 obtain ⟨os,hos,hcs,hds⟩:=id hs;have hTs:s.TypeIs (.ref sl) "slice":=⟨os,hos,hcs⟩;unfold fq
 try with_reducible refine i9 ?_
 first | refine Ι (Ρ ?_) | skip
 refine Ι (wpAny_sequenceKey ht.typeIs (by decide) ?_);refine Ι (wpAny_callSpecial?_slot (name:=ei "__getitem__") ht.typeIs de
  (gs de ht.typeIs entry_tuple_getitem ?_ (args_tuple_getitem _ _)))
 show Χ _ _ (Builtin.Tuple.tupleItemsOf (.ref t) >>= _) _ _ s
 refine Ι (tupleItemsOf_ ht ?_);refine Ι (jv hTs ?_);rw [if_pos (by decide)];have ap:∀ {A:ag} {E:Α->Ζ->Prop} {Q:Int×Int×Nat->Ζ->Prop},Q ((items.size:Int) - 1,-1,items.size) s->Χ (Ω prog w) A (eI (.ref sl) (pure (items.size:Int))) Q E s:=by
  intro A E Q h;unfold eI Builtin.Slice.sliceFields;refine Ι (Ι (ik hos hds (x := .none) rfl (Ι (ik hos hds (x := .none) rfl (Ι (ik hos hds (x := .int (-1) tk) rfl (Ρ ?_)))))));refine Ι (slicePart_int ?_)
  show Χ _ _ (if ((-1:Int)==0)=true then _ else _) _ _ s
  rw [if_neg (by decide)];refine Ι (i4 (Ι (i4 (Ι (Ρ ?_)))))
  show Χ _ _ (match ce none none (-1) (items.size:Int) with | (lo,hi)=>pure (lo,(-1:Int),ba lo hi (-1))) _ _ s
  have e1:ce none none (-1) (items.size:Int)=((items.size:Int) - 1,-1):=by simp [ce]
  rw [e1];have e2:ba ((items.size:Int) - 1) (-1) (-1)=items.size:=by
   unfold ba;simp only [show ¬ ((-1:Int)>0) by decide,if_false]
   split
   ·have:((items.size:Int) - 1 - -1 - 1)=(items.size:Int) - 1:=by omega
    rw [this,show (- -1:Int)=1 from rfl,gS];omega
   ·omega
  show Χ _ _ (pure ((items.size:Int) - 1,(-1:Int),ba ((items.size:Int) - 1) (-1) (-1))) _ _ s
  rw [e2];exact Ρ h
 refine Ι (ap ?_)
 show Χ _ _ (if (((items.size:Int) - 1)==0&&(-1:Int)==1&&items.size==items.size)=true then _ else _) _ _ s
 rw [if_neg (by simp),Yfd]
 first
  | exact Ι (m:=bg _) (bp (Ρ ⟨_,rfl,Ρ h⟩) eF)
  | exact Ι (m:=bg _) (bp (Ι (Ρ (Ρ ⟨_,rfl,Ρ h⟩))) eF)
  | exact Ι (Ι (m:=bg _) (bp (Ρ (Ρ ⟨_,rfl,Ρ h⟩)) eF))
  | exact Ι (Ι (m:=bg _) (bp (Ρ ⟨_,rfl,Ρ h⟩) eF))
end HT
namespace L2
open PySem PySem.Spec PyProof.Rows
def VM (z:Str):Str:=⟨z.cps.toList.reverse.toArray⟩
theorem Yei (n:Nat):bv none none (-1) n=(ζ n).map λ(k:Nat)=>n - 1 - k:=by
 unfold bv;simp;unfold jj;simp only [show ¬ ((-1:Int)>0) by decide,if_false];have hc:(if (n:Int) - 1 > -1 then ((n:Int) - 1 - -1 - -1 - 1) / - -1 else 0).toNat=n:=by
  split
  ·have:((n:Int) - 1 - -1 - -1 - 1)=n:=by omega
   rw [this,show (- -1:Int)=1 from rfl,gS];omega
  ·omega
 rw [hc]
 apply a9
 intro k hk;have:k<n:=bb.mp hk;omega
theorem Yej (z:Str):(⟨(((ζ z.length).map λ(k:Nat)=>z.length - 1 - k).filterMap (z.cps[·]?)).toArray⟩:Str)=VM z:=by
 have hl:z.length=z.cps.size:=rfl;rw [g9];have key:∀ (n:Nat),n<=z.cps.size->(List.filterMap ((λx=>z.cps[x]?) ∘ λk=>z.length - 1 - k) (ζ n))=z.cps.toList.reverse.take n:=by
  intro n
  induction n with
  | zero=>intro _;simp
  | succ n ih =>
   intro hn;rw [dn,gh,ih (by omega)];have hx:z.cps.toList.reverse[n]?=some (z.cps[z.cps.size - 1 - n]'(by omega)):=by
    rw [List.getElem?_reverse (by simp;omega)];simp
   rw [YT hx];have hlt:z.cps.size - 1 - n<z.cps.size:=by omega
   simp [hl,hlt]
 rw [hl] at key ⊢
 rw [key z.cps.size (Κ _),am (by simp)];rfl
theorem YbG (z:Str):(VM z).length=z.length:=by simp [VM,kr]
section
variable {X:Cx} {e st:Expr} {te ts:TE} {pos p2:Pos} {K:Θ}
def Eu (K:Θ) (te ts:TE):TE:=λσ H Q=>te σ H λx H1=>ts σ H1 λy H2=>y = .int (-1)/\((∃ a xs,x = .ref a/\au K H2 a xs/\∀ p,H2 p=none->Q (.ref p) (upd H2 p (.lst xs.reverse))) \/
 (∃ a xs,x = .ref a/\aJ K H2 a xs/\∀ p,H2 p=none->Q (.ref p) (upd H2 p (.tup xs.reverse)))\/∃ z,x = .str z/\z.length<=sizeLine/\Q (.str (VM z)) H2)
theorem YgG (he:PE X e te) (hs:PE X st ts) (hK:X.K=K):PE X (.Subscript e (.Slice none none (some st) p2) pos) (Eu K te ts):=by
 subst hK;intro pins s σ H Q I h;refine Subscript_ (aA (he pins s σ H _ I h) λv s1 ⟨x,H1,I1,r1,q1⟩=>?_);refine wpAny_Slice ?_;rw [evalPart_none];refine Ρ (Ρ ?_);rw [evalPart_some];refine aA (hs pins s1 σ H1 _ I1 q1) λu s2 ⟨y,H2,I2,r2,q2⟩=>?_
 obtain ⟨rfl,q2⟩:=q2;obtain ⟨t,rfl⟩:=r2;have I4:Inv X pins σ H2 { s2 with heap:=s2.heap.push { cls := .type "slice",data := .fields #[.none,.none,.int (-1) t] } }:=I2.kept (t':=s2.toks) λb ob q=>Ο _ q
 rcases q2 with ⟨a,xs,rfl,hx,q⟩ | ⟨a,xs,rfl,hx,q⟩ | ⟨z,rfl,hz,q⟩
 ·cases r1
  obtain ⟨its,r,ht,hz⟩:=I4.list hx;have hlen:=r.length;have hg:=wpAny_getItem_list_slice (prog:=X.prog) (w:=X.w) (A:=X.A) (E:=X.xe) (Q:=EP X pins σ Q) ht.isList (Heap.IsSliceOf.new ..) .none .none (.int (-1) t) (by decide) (by
   rw [Yar];refine ⟨.ref _,_,I4.laid (t':=_) (o := .lst xs.reverse) (λb ob q=>Ο _ q) (Κ _) ?_,rfl,q _ (I4.hok.fresh (Κ _))⟩;exact ⟨by rw [b7];exact hz,_,0,r.reverse,af _ rfl⟩) (by rw [ψ]<;>omega)
  exact tail_any (ops:=[.ref a,.ref s2.heap.objs.size]) ht.isList.typeIs slot_list_getitem.lookup hg (by with_unfolding_all rfl)
 ·cases r1
  obtain ⟨its,r,ht,hz⟩:=I4.tuple hx;have hlen:=r.length;have hg:=HT.iz (prog:=X.prog) (w:=X.w) (A:=X.A) (E:=X.xe) (Q:=EP X pins σ Q) ht (Heap.IsSliceOf.new ..) (by
   refine ⟨.ref _,_,I4.laid (t':=_) (o := .tup xs.reverse) (λb ob q=>Ο _ q) (Κ _) ?_,rfl,q _ (I4.hok.fresh (Κ _))⟩;exact ⟨by rw [b7];exact hz,_,r.reverse,IsTup.new _ _⟩) (by rw [ψ];omega)
  exact tail_any (ops:=[.ref a,.ref s2.heap.objs.size]) ht.typeIs PyProof.Rows.slot_tuple_getitem.lookup hg (by with_unfolding_all rfl)
 ·obtain ⟨tz,rfl⟩:=r1
  have hg:Χ (Ω X.prog X.w) X.A (fq (.str z tz) (.ref s2.heap.objs.size)) (EP X pins σ Q) X.xe { s2 with heap:=s2.heap.push { cls := .type "slice",data := .fields #[.none,.none,.int (-1) t] } }:=by
   refine wpAny_getItem_str_slice (l:=none) (u:=none) (st:=some (-1,t)) ⟨_,af _ rfl,rfl,rfl⟩ rfl ?_;have e:(if (((some ((-1:Int),t)).map (·.1)).getD 1==1&&(slicePicked z none none (some (-1,t))).length==z.length)=true then z else ⟨((slicePicked z none none (some (-1,t))).filterMap (z.cps[·]?)).toArray⟩)=VM z:=by
    rw [if_neg (by simp)]
    show (⟨((bv none none (-1) z.length).filterMap (z.cps[·]?)).toArray⟩:Str)=_
    rw [Yei];exact Yej z
   refine post_val_or_str ⟨by rw [e,YbG];exact hz,λt' k=>?_⟩;rw [e];exact ⟨.str (VM z),H2,I4.tok k,⟨t',rfl⟩,q⟩
  exact tail_any (ops:=[.str z tz,.ref s2.heap.objs.size]) (typeIs_str _ _ _) F.slot_str_getitem.lookup hg (by with_unfolding_all rfl)
end
end L2
namespace L2
open PySem
noncomputable def sm (a b:Γ):Bool:=@decide (a=b) (Classical.propDecidable _)
inductive Tm where
 | num (i:Int) | here | part (t:Tm) (k:Int) | count (t:Tm) | sum (t:Tm) | not (t:Tm) | turned (t:Tm)
 | same (a b:Tm) | both (a b:Tm) | when (a b c:Tm) | each (a b:Tm) | joined (a b:Tm) | plus (a b:Tm) | times (a b:Tm) | less (a b:Tm)
abbrev vd:=Except Str Γ
def QM:Γ->Option (List Γ)
 | .list xs=>some xs
 | .tuple xs=>some xs
 | _=>none
def Jc:List Γ->Option Int
 | []=>some 0
 | .int i::r=>(Jc r).map (i+·)
 | _::_=>none
def take (mk:Str) (s:vd) (f:Γ->Option α):Except Str α:=match s with
 | .error m => .error m
 | .ok d=>match f d with
  | some a => .ok a
  | none => .error mk
def Uy:Γ->Option Int
 | .int i=>some i
 | _=>none
def Ub:Γ->Option Bool
 | .bool b=>some b
 | _=>none
def lenOf:Γ->Option Nat
 | .list xs=>some xs.length
 | .tuple xs=>some xs.length
 | .str x=>some x.length
 | _=>none
def Yht:Γ->Option Γ
 | .list xs=>some (.list xs.reverse)
 | .tuple xs=>some (.tuple xs.reverse)
 | .str x=>some (.str (VM x))
 | _=>none
def Jd (mk:Str) (f:Γ->vd):List Γ->vd
 | [] => .ok (.bool true)
 | x::xs=>match take mk (f x) Ub with
  | .error m => .error m
  | .ok true=>Jd mk f xs
  | .ok false => .ok (.bool false)
noncomputable def tell:Tm->Γ->vd
 | .num i,_ => .ok (.int i)
 | .here,d => .ok d
 | .part t k,d=>take "part" (tell t d) λx=>(QM x).bind λxs=>if 0<=k then xs[k.toNat]? else none
 | .count t,d=>(take "count" (tell t d) lenOf).map λ(n:Nat)=>PyData.int (n:Int)
 | .sum t,d=>(take "sum" (tell t d) λx=>(QM x).bind Jc).map .int
 | .not t,d=>(take "not" (tell t d) Ub).map λb => .bool (!b)
 | .turned t,d=>take "turned" (tell t d) Yht
 | .same a b,d=>match tell a d with
  | .error m => .error m
  | .ok x=>(tell b d).map λy => .bool (sm x y)
 | .both a b,d=>match take "both" (tell a d) Ub with
  | .error m => .error m
  | .ok false => .ok (.bool false)
  | .ok true=>(take "both" (tell b d) Ub).map .bool
 | .when a b c,d=>match take "when" (tell a d) Ub with
  | .error m => .error m
  | .ok true=>tell b d
  | .ok false=>tell c d
 | .each a b,d=>match take "each" (tell a d) QM with
  | .error m => .error m
  | .ok xs=>Jd "each" (λx=>tell b x) xs
 | .joined a b,d=>match tell a d with
  | .error m => .error m
  | .ok (.list xs)=>take "joined" (tell b d) λy=>match y with
   | .list ys=>some (.list (xs++ys))
   | _=>none
  | .ok (.str x)=>take "joined" (tell b d) λy=>match y with
   | .str z=>some (.str (x++z))
   | _=>none
  | .ok _ => .error "joined"
 | .plus a b,d=>match take "plus" (tell a d) Uy with
  | .error m => .error m
  | .ok i=>(take "plus" (tell b d) Uy).map λj => .int (i+j)
 | .times a b,d=>match take "times" (tell a d) Uy with
  | .error m => .error m
  | .ok i=>(take "times" (tell b d) Uy).map λj => .int (i*j)
 | .less a b,d=>match take "less" (tell a d) Uy with
  | .error m => .error m
  | .ok i=>(take "less" (tell b d) Uy).map λj => .bool (decide (i<j))
structure IB (n:Nat) (i:Int):Prop where
 h:i.natAbs<2^(200*2^n)
mutual
def hb:Γ->Prop
 | .list xs=>xs.length<=64/\hbs xs
 | .tuple xs=>xs.length<=64/\hbs xs
 | .str x=>x.length<=64
 | .int i=>IB 0 i
 | .none=>True
 | .bool _=>True
 | .dict _=>False
def hbs:List Γ->Prop
 | []=>True
 | d::ds=>hb d/\hbs ds
end
theorem Wi {d:Γ}:∀ {ds:List Γ},d∈ds->d.depth<=θ ds
 | e::ds,h=>by
  simp only [θ];rcases Ν.mp h with rfl | h
  ·omega
  ·have:=Wi h
   omega
end L2
namespace L2
open PySem PySem.Spec PyProof.Rows
mutual
def cnt:Γ->Nat
 | .list xs=>Xh xs+1
 | .tuple xs=>Xh xs
 | .dict _=>0
 | .none=>0
 | .bool _=>0
 | .int _=>0
 | .str _=>0
def Xh:List Γ->Nat
 | []=>0
 | d::ds=>cnt d+Xh ds
end
def cb:Nat->Nat
 | 0=>0
 | n+1=>1+4*cb n
def sb:Nat->Nat
 | 0=>60
 | n+1=>4*sb n+11
end L2
set_option maxHeartbeats 4000000
namespace PySem.W
open PySem PySem.Calls PyProof.Rows
section sort
variable {f:Nat->Nat->Bool} {n:Nat}
structure RM (f:Nat->Nat->Bool) (n:Nat):Prop where
 asy:∀ i j,i<n->j<n->f i j=true->f j i=false
 tr:∀ i j k,i<n->j<n->k<n->f j i=false->f k j=false->f k i=false
variable (O:RM f n) (h0:0<n)
include O h0
end sort
end PySem.W
set_option maxHeartbeats 4000000
set_option maxHeartbeats 4000000
set_option maxHeartbeats 4000000
set_option maxHeartbeats 4000000
set_option maxHeartbeats 4000000
set_option maxHeartbeats 4000000
set_option maxHeartbeats 4000000
namespace L2
open PySem PySem.Spec PyProof.Rows PySem.W
abbrev gr (q:Int×List Γ):PyData := .tuple (.int q.1::q.2)
end L2
namespace L2
open PySem PySem.Spec PyProof.Rows
def Gx.gk (g:Gx) (x qual:Str) (st:Stmt) (ps:List Str) (aV:List V):Prop:=∃ f fd T ds,RL g.K x qual st f fd T/\Yt aV ds/\Xc g.K fd ps ds/\Xc g.K fd ps []/\g.mg x=some (.ref f)
theorem Je {K:Θ} {h:Heap} {mg:Str->Option Α} {f T:Addr} {x:Str} {st:Stmt} {oc kV dc pm cd ct:Α} {od an:Option Addr} {sl:Array (Option Α)} {o:Obj} {items:Array Α} {n:Nat} (X:K.In h) (G:h.Ns az mg) (ps:List Str) (aV:List V) (nb:Nat)
  (a:W.nsIn K az x=some (some (.ref f))) (l:K.lookup f=some ⟨oc,od,.func (c8 x x (YV st) (YI st) (Yj st) (.ref T) kV dc pm an cd ct),sl⟩) (c:ie K cd x=true) (k:eQ K (.ref f)=true)
  (t:K.lookup T=some o) (s:o.data = .seq items n) (v:Yt aV items.toList) (e:nb+items.toList.length=ps.length)
  (b:∀ (us:List Α),us.length=nb->∃ kk,fN (c8 x x (YV st) (YI st) (Yj st) (.ref T) kV dc pm an cd ct) ⟨us,[]⟩=seqItems? (.ref T) >>= kk/\kk (some items)=pure (ps.zip (us++items.toList)))
  (b0:∀ (us:List Α),us.length=ps.length->∃ kk,fN (c8 x x (YV st) (YI st) (Yj st) (.ref T) kV dc pm an cd ct) ⟨us,[]⟩=seqItems? (.ref T) >>= kk/\kk (some items)=pure (ps.zip us)) :
  ∀ P w base,(Gx.mk P w K mg base).gk x x st ps aV:=λP w base =>
 ⟨f,_,T,items.toList,⟨⟨oc,od,kV,dc,pm,an,cd,ct,sl,rfl,l,c⟩,k⟩,v,λs' us hK hl=>by
  have hn:us.length=nb:=by rw [Μ] at hl;omega
  obtain ⟨kk,h1,h2⟩:=b us hn;exact W.binds_K hK rfl t s h1 h2,λs' us hK hl=>by
  rw [a8] at hl ⊢
  obtain ⟨kk,h1,h2⟩:=b0 us hl;exact W.binds_K hK rfl t s h1 h2,W.mg_of X G a⟩
end L2
set_option maxHeartbeats 4000000
set_option maxHeartbeats 4000000
namespace L2
open PySem PySem.Spec PyProof.Rows PySem.W
section
variable {X:Cx}
def Jf (K:Θ):R2:=λx y H Q=>∃ a b xs ys,x = .ref a/\y = .ref b/\aJ K H a xs/\aJ K H b ys/\xs.length+ys.length<=sizeLine/\(xs=[]->Q (.ref b) H)/\(xs≠[]->ys=[]->Q (.ref a) H)/\(xs≠[]->ys≠[]->∀ p,H p=none->Q (.ref p) (upd H p (.tup (xs++ys))))
theorem Yfe:bM X (di .Add) (Jf X.K):=by
 intro pins s σ H x y v u Q I rx ry h;obtain ⟨a,b,xs,ys,rfl,rfl,ha,hb,hz,q0,q1,q2⟩:=h;by_cases hx:xs=[]
 ·cases rx
  cases ry
  obtain ⟨its,r1,p1,_⟩:=I.tuple ha;obtain ⟨its2,r2,p2,_⟩:=I.tuple hb;have hi:its=[]:=r1.g8.mpr hx;obtain ⟨⟨cls,dd,data,sl⟩,ho,hc,n,hd⟩:=id p1;obtain ⟨⟨cls2,dd2,data2,sl2⟩,ho2,hc2,n2,hd2⟩:=id p2;simp only at hc hd hc2 hd2;subst hc hd hc2 hd2;exact concat_meets ⟨_,ho,rfl⟩ ⟨_,ho2,rfl⟩ noFill_tuple_add seq_tuple_add F.slot_tuple_add F.entry_tuple_add (F.args_tuple_add_2 _ _)
   (tuple_addW0 a b its.toArray its2.toArray n n2 dd dd2 sl sl2 (by simp [hi])) ⟨ho,ho2,.ref b,H,I,rfl,q0 hx⟩
 ·exact Ygn pins s σ H _ _ v u Q I rx ry ⟨a,b,xs,ys,rfl,rfl,ha,hb,hx,hz,q1 hx,q2 hx⟩
end
end L2
namespace L2
open PySem PySem.Spec PyProof.Rows
noncomputable def fG (xs:Dx) (d:Γ) (p:Addr):Dx:=xs.map λx=>if x.1=d then (x.1,x.2.1,p) else x
noncomputable def bA (xs:Dx) (d:Γ) (b p:Addr):Dx:=match aK xs d with
 | none=>xs++[(d,b,p)]
 | some _=>fG xs d p
theorem YgH (xs:Dx) (d:Γ) (p:Addr):(fG xs d p).map (·.1)=xs.map (·.1):=by
 unfold fG;rw [bo];refine a9 λx _=>?_
 show (if x.1=d then (x.1,x.2.1,p) else x).1=x.1
 split<;>rfl
theorem YgI (xs:Dx) (d e:Γ) (p q:Addr) (h:aK xs d=some q):aK (fG xs d p) e=if e=d then some p else aK xs e:=by
 induction xs with
 | nil=>cases h
 | cons x xs ih =>
  unfold aK fG at *;simp only [χ,a7] at *;by_cases c:x.1=d
  ·rw [if_pos c]
   by_cases c2:e=d
   ·subst c2;simp [c]
   ·have c3:¬ x.1=e:=λz=>c2 (z.symm.trans c)
    have c3:¬ d=e:=λz=>c2 z.symm
    simp only [c,c3,decide_false,if_neg c2];clear ih h
    induction xs with
    | nil=>rfl
    | cons y ys ih2 =>
     simp only [χ,a7];by_cases c4:y.1=d
     ·simp only [c4,if_pos,c3,decide_false];exact ih2
     ·rw [if_neg c4]
      by_cases c5:y.1=e
      ·simp [c5]
      ·simp only [c5,decide_false];exact ih2
  ·rw [if_neg c]
   simp only [c,decide_false] at h;by_cases c2:e=d
   ·subst c2
    simp only [c,decide_false];rw [ih h,if_pos rfl,if_pos trivial]
   ·rw [if_neg c2]
    by_cases c5:x.1=e
    ·simp [c5]
    ·simp only [c5,decide_false]
     have:=ih h;rw [if_neg c2] at this
     exact this
theorem Jg (xs:Dx) (d e:Γ) (b p:Addr):aK (bA xs d b p) e=if e=d then some p else aK xs e:=by
 unfold bA
 split
 ·rename_i h;exact WV _ _ _ _ _ h
 ·rename_i h;exact YgI _ _ _ _ _ h
theorem Yff (xs:Dx) (d:Γ) (b p:Addr):(bA xs d b p).length<=xs.length+1:=by
 unfold bA
 split
 ·rw [Μ];exact Κ _
 ·unfold fG;rw [Β];omega
theorem Yfg {xs:Dx} {d:Γ} {b p:Addr} {x:Γ×Addr×Addr} (h:x∈bA xs d b p):x∈xs\/(x.1=d/\x.2.2=p):=by
 unfold bA at h
 split at h
 ·rcases a6.mp h with h | h
  ·exact .inl h
  ·rw [Φ.mp h];exact .inr ⟨rfl,rfl⟩
 ·unfold fG at h
  obtain ⟨y,hy,rfl⟩:=ac.mp h
  split
  ·rename_i c;exact .inr ⟨c,rfl⟩
  ·exact .inl hy
section
variable {X:Cx} {pins:List (Addr×Obj)} {σ:St} {H:Hp} {s:Ζ} {a b:Addr} {d:Γ} {xs:Dx} {A:ag} {E:Α->Ζ->Prop}
theorem Yem {p q:Addr} {Q:Unit->Ζ->Prop} (hu:A.units+9<ia) (I:Inv X pins σ H s) (g:bC X.prog X.w X.K H a xs) (k:DK X.K H b d) (l:aK xs d=some q) (h:∀ s',Inv X pins σ (upd H a (cg X.prog X.w a (fG xs d p))) s'->Q () s') :
  Χ (Ω X.prog X.w) A (setItem (.ref a) (.ref b) (.ref p)) Q E s:=by
 obtain ⟨hd,dd⟩:=Qo I g;have hz:(xs.map XE).length<=sizeLine:=by rw [Β];exact Τ g.len (by decide)
 refine wpAny_setItem_heap (hsz:=hz) (show A.in1.units+8<ia from by have:A.in1.units=A.units+1:=rfl;omega) (Qn I k) dd λh' ql hs=>h _ ?_
 have e:=WH xs d;rw [l] at e
 obtain ⟨z,hz,_⟩:=ε.mp e;rw [storedH_old hz] at ql
 obtain ⟨q,es,ep,hq,h2,h3,h4,_,h5⟩:=ql;refine Hg I (by rw [g.at_];exact d3) hs ⟨q,hq⟩ (yW hd ⟨q,es,ep,hq,h2,h3,?_⟩);rw [h4]
 congr 1
 rw [bo,fG,bo];refine a9 λx _=>?_
 show putAt d (.ref p) (XE x)=XE (if x.1=d then (x.1,x.2.1,p) else x)
 by_cases c:x.1=d
 ·rw [if_pos c];simp [putAt,XE,c]
 ·rw [if_neg c];simp [putAt,XE,c]
end
theorem bC.bA {P:δ} {w:ι} {K:Θ} {H:Hp} {a b p:Addr} {d:Γ} {xs:Dx} (h:bC P w K H a xs) (k:DK K H b d) (hl:xs.length<1000):bC P w K (upd H a (cg P w a (L2.bA xs d b p))) a (L2.bA xs d b p):=by
 cases e:aK xs d with
 | none =>
  have e2:L2.bA xs d b p=xs++[(d,b,p)]:=by unfold L2.bA;rw [e]
  rw [e2];exact h.put k e hl
 | some q =>
  have e2:L2.bA xs d b p=fG xs d p:=by unfold L2.bA;rw [e]
  rw [e2];have t:X7 H (upd H a (cg P w a (fG xs d p))):=Wv (λb o hb e=>by rw [Ye hb];exact e) h.at_ (by intro xs z;cases z) (by intro o v z;cases z);refine ⟨Yb,by rw [YgH];exact h.nd,by unfold fG;rw [Β];exact h.len,λx hx=>?_⟩;unfold fG at hx;obtain ⟨y,hy,rfl⟩:=ac.mp hx;have:=(h.keys y hy).bO t
  split<;>exact this
def Jh (P:δ) (w:ι) (K:Θ) (td ty tv:TE):TS:=λD σ H=>tv σ H λv H1=>td σ H1 λx H2=>ty σ H2 λy H3=>∃ a b xs d p,v = .ref p/\x = .ref a/\y = .ref b/\bC P w K H3 a xs/\DK K H3 b d/\xs.length<1000/\D.nx σ (upd H3 a (cg P w a (bA xs d b p)))
section
variable {X:Cx} {o i e value:Expr} {pos pos' tpos:Pos} {td ty tv:TE} {k:Nat}
theorem Yfh (hr:aP k X.A) (ho:PE X o td) (hi:PE X i ty) (hv:PE X value tv) (hs:swapsWith value (some (.Subscript o i pos')) pos.line X.env=pure false) :
  PS X (.Assign [.Subscript o i pos'] value pos) (Jh X.prog X.w X.K td ty tv):=by
 intro pins s σ H D I h;refine wpAny_Assign_Subscript (aA (hv pins s σ H _ I h) λr s1 ⟨v,H1,I1,rv,q1⟩=>aA (ho pins s1 σ H1 _ I1 q1) λu s2 ⟨x,H2,I2,rx,q2⟩=>aA (hi pins s2 σ H2 _ I2 q2) λiv s3 ⟨y,H3,I3,ry,a,b,xs,d,p,ev,ex,ey,g,kk,hl,q3⟩=>?_) hs;subst ex ey ev;obtain rfl:u=ae a:=rx;obtain rfl:iv=ae b:=ry;obtain rfl:r=ae p:=rv
 cases el:aK xs d with
 | none =>
  have e2:bA xs d b p=xs++[(d,b,p)]:=by unfold bA;rw [el]
  rw [e2] at q3
  exact Qp (V9 hr) I3 g kk el hl λs4 I4=>⟨σ,_,I4,q3⟩
 | some q =>
  have e2:bA xs d b p=fG xs d p:=by unfold bA;rw [el]
  rw [e2] at q3
  exact Yem (V9 hr) I3 g kk el λs4 I4=>⟨σ,_,I4,q3⟩
end
inductive iU (L:List (Addr×Sp)) (H:Hp) (a:Addr) (m:Str) (Q:Sp->Prop):Prop
 | mk (C:Addr) (sp:Sp) (hm:(C,sp)∈L) (dx:Addr) (fs:List (Str×V)) (h:H a=some (.ins C dx fs)) (l:fs.lookup m=none) (q:Q sp)
theorem iU.map {L:List (Addr×Sp)} {H:Hp} {a:Addr} {m:Str} {Q Q':Sp->Prop} (h:iU L H a m Q) (f:∀ sp,Q sp->Q' sp):iU L H a m Q':=by
 obtain ⟨C,sp,hm,dx,fs,h1,h2,h3⟩:=h;exact ⟨C,sp,hm,dx,fs,h1,h2,f sp h3⟩
theorem WJ {s u:TS} {D:Ends} {σ:St} {H:Hp} (h:∀ R:St->Hp->Prop,(∀ σ' H',u D σ' H'->R σ' H')->s { D with nx:=R } σ H):We s u D σ H:=h _ λ_ _ h=>h
def za (L:List (Addr×Sp)) (m:Str) (ta:TE) (t:TA):TE:=λσ H Q=>ta σ H λx H1=>kR x λa=>iU L H1 a m λsp=>t σ H1 λvs H2=>sp (.ref a::vs) H2 Q E0
def Gx.dR (g:Gx) (j:Nat) (m:Str) (ps:List Str) (L:List (Addr×Sp)):Prop:=∀ C sp,(C,sp)∈L->g.Me j C m ps sp/\Cls g.K C
section
variable {X:Cx} {g:Gx} {j k:Nat} {C:Addr} {m:Str} {ps:List Str} {sp:Sp} {L:List (Addr×Sp)} {o e:Expr} {es:List Expr} {ta:TE} {t:TA} {apos pos:Pos}
theorem YR:g.dR j m ps []:=λ_ _ h=>by cases h
theorem Yc (F:g.Me j C m ps sp) (c:Cls g.K C) (h:g.dR j m ps L):g.dR j m ps ((C,sp)::L):=λC' sp' hm=>by
 rcases Ν.mp hm with e | hm
 ·cases e;exact ⟨F,c⟩
 ·exact h C' sp' hm
theorem XH {pl:Sem Bool} (F:g.dR j m ps L) (hr:aP k X.A) (ho:PE X o ta) (ha:PA X (e::es) t) (hj:j<=k:=by omega) (hX:X.gx=g:=by rfl)
  (hst:η (e::es) X.env=(false,eval e X.env)::η es X.env:=by rfl) (hpl:(b8 pos (η es X.env)).any (·.1)=false:=by rfl)
  (ht:eval (.Call (.Attribute o m apos) (e::es) [] pos) X.env=(do
   let ov <- eval o X.env
   standAt apos.atName
   let (f,first) <- holding [ov] (i8 ov m pl)
   callWith pos f first (b8 pos (η (e::es) X.env)) (js pos (il [] X.env))):=by rfl):PE X (.Call (.Attribute o m apos) (e::es) [] pos) (za L m ta t):=by
 subst hX;intro pins s σ H Q I h;refine PySem.W.methodCall_KW (pl:=pl) (aA (ho pins s σ H _ I h) λu s1 ⟨x,H1,I1,rx,q⟩=>?_) ht
 replace q:=Vm.mp q
 obtain ⟨a,ex,C,sp,hL,dx,fs,ea,l,q⟩:=q;subst ex;obtain rfl:u=ae a:=rx;obtain ⟨⟨f,fd,F,b,hm⟩,c⟩:=F C sp hL;refine Qa I1 ea c hm l ?_;refine fF (first:=[.ref a]) (h₀:=X.base) I.ok.mod.jK hm.kp (aA (ha pos pins s1 σ H1 _ I1 q) λus s2 ⟨vs,H2,I2,r,q2⟩=>⟨I2.bL,?_⟩) hst hpl;exact V3 (us := .ref a::us) (vs := .ref a::vs) F (hr.mono hj) b .nil Vh I2 (.cons rfl r) (by rw [a8];exact q2)
end
def Gx.gH (g:Gx) (k:Nat) (x:Str) (ps:List Str) (aV:List V) (sp:Sp):Prop:=∃ f fd ds,bG g.P g.w g.K g.mg g.base cL k f fd ps sp/\Yt aV ds/\Xc g.K fd ps ds/\Xc g.K fd ps []/\eQ g.K (.ref f)=true/\g.mg x=some (.ref f)
section
variable {g:Gx} {x qual:Str} {st:Stmt} {N ps:List Str} {aV:List V} {sp:Sp} {j k:Nat}
theorem Gx.gk.Ji (R:g.gk x qual st ps aV) (S:ak N ps (Yj st)) (len:∀ vs H Q E,sp vs H Q E->vs.length=ps.length) (b:V6 g k N qual st sp):g.gH (k+1) x ps aV sp:=by
 obtain ⟨f,fd,T,ds,F,hv,bd,b0,hm⟩:=R;refine ⟨f,fd,ds,?_,hv,bd,b0,F.kp,hm⟩;obtain ⟨oc,od,kV,doc,pm,an,cdv,ct,osl,rfl,lk,hcd⟩:=F.ex;refine GC lk hcd S len λA outer s H vs Q E hr hsp=>?_
 obtain ⟨t,h,q⟩:=b f cdv A outer s H vs Q E hr hsp;exact ⟨t,h.iC,q⟩
theorem Gx.gH.mono (F:g.gH j x ps aV sp) (h:j<=k):g.gH k x ps aV sp:=by
 obtain ⟨f,fd,ds,F,r⟩:=F;exact ⟨f,fd,ds,F.mono h,r⟩
theorem Gx.gH.full (F:g.gH k x ps aV sp):g.Fn k x ps sp:=by
 obtain ⟨f,fd,ds,F,hv,b,b0,kp,hm⟩:=F;exact ⟨f,fd,F,b0,kp,hm⟩
theorem Gx.gH.d (F:g.gH k x ps aV sp):g.Iw k x ps aV sp:=by
 obtain ⟨f,fd,ds,F,hv,b,b0,kp,hm⟩:=F;exact ⟨f,fd,ds,F,hv,b,kp,hm⟩
end
open Sem (wp)
theorem QN:typeLookup (.type "list") "keys"=pure none:=by rw [typeLookup_type,builtinLookup_eq_fast];kernel_rfl
set_option maxHeartbeats 3200000 in
theorem Uc {prog:δ} {w:ι} {A:ag} {E:Α->Ζ->Prop} {s:Ζ} {a:Addr} {xs:Array Α} {k:Nat} {sl:Array (Option Α)} {name:Str} {Q:Option Α->Ζ->Prop}
  (hx:s.heap.get? a=some { cls := .type "list",dict:=none,data := .seq xs k,slots:=sl }) (hmiss:typeLookup (.type "list") name=pure none) (hname:(["__module__","__name__","__qualname__","__doc__","__annotations__"]:List Str).contains name=false) (hA:A.handled=none)
  (h:∀ h' tk e,Heap.NewExcOf s.heap h' e "AttributeError"->Q none { s with heap:=h',toks:=tk }) (hsz:name.length+100<=sizeLine:=by size_fits) :
  Χ (Ω prog w) A (getAttr? (.ref a) name) Q E s:=by
 obtain ⟨hp,g,d,tk,os⟩:=s;have hT:∀ tk',(⟨hp,g,d,tk',os⟩:Ζ).TypeIs (.ref a) "list":=λ_=>⟨_,hx,rfl⟩
 have f1:=sub_AttributeError;have f3:=F.slot_list_getattribute.lookup;have f4:=F.slot_list_getattribute.bind (.ref a);have f5:=am_list_getattr_none;unfold getAttr? getAttrBy? getAttrBy
 repeat (any_goals (first | assumption | exact hT _ | ((with_reducible show Χ _ _ (call (Value.builtin "list.__getattribute__") _ _) _ _ _);refine call_meets F.slot_list_getattribute (hT _) am_entry_list_getattribute (F.args_list_getattribute_2 _ _) (meets_getattribute_miss_list a xs k sl name _ hmiss hname hsz) ⟨hx,hA,λh' tk' e hx'=>?_⟩) | wp_step))
 obtain ⟨t',u',he⟩:=hx'.there
 show Χ _ _ (getattributeRaised _ _ _ _ _ _ _) _ _ _
 unfold getattributeRaised
 repeat (any_goals (first | assumption | wp_step))
 exact h _ _ _ hx'.of
theorem XW:plainId "dict.update.loop"=true:=by decide +kernel
theorem Vi:entryFor table "dict.update.loop"=some Builtin.«dict.update.loop»:=entryFor_of_tree (by kernel_rfl)
section
variable {prog:δ} {w:ι} {A:ag} {E:Α->Ζ->Prop} {s:Ζ}
set_option maxHeartbeats 3200000 in
theorem Ya4 {l T:Addr} {x:Str} {u:Tok} {v:Α} {Q:Α->Ζ->Prop} (hh:A.handled=none) (hl:PlainL s.heap l #[.ref T]) (hT:IsTup s.heap T #[.str x u,v])
  (h:∀ (h':Heap) (tk:Nat),h'.DictOf (Y1 prog w) s.heap.objs.size [(.inr x,v)]->(∀ b o,s.heap.get? b=some o->h'.get? b=some o)->Q (.ref s.heap.objs.size) { s with heap:=h',toks:=tk }) :
  Χ (Ω prog w) A (call (.type "dict") [.ref l]) Q E s:=by
 obtain ⟨⟨lc,ld,lda,lsl⟩,n1,hl,e1,e2,e3⟩:=hl;simp only at e1 e2 e3;subst e1 e2 e3;refine callType_codes (Q₁:=λobj s₁=>obj = .ref s.heap.objs.size/\s₁={ s with heap:=s.heap.push { cls := .type "dict",data := .dict #[] } }) PySem.F.kt_called_dict (PySem.F.kt_typeCall_dict_1 _) PySem.F.entry_dict_init (kt_code_dict_new _ ⟨rfl,rfl⟩) ?_;rintro obj s₁ ⟨rfl,rfl⟩;have hnew:(s.heap.push { cls := .type "dict",data := .dict #[] }).DictOf (Y1 prog w) s.heap.objs.size []:=Heap.DictOf.new s.heap;have hl1:=Ο (h:=s.heap) { cls := .type "dict",data := .dict #[] } hl;refine ⟨hnew.typeIs,PySem.F.args_dict_init_2 _ _,?_⟩;unfold Builtin.«dict.__init__»;refine Ι ?_;unfold Builtin.Dict.selfAndRest;refine Ι (wpAny_notOrdered_dict hnew.typeIs ?_)
 show Χ _ _ (pure (s.heap.objs.size,[ae l])) _ _ _
 refine Ρ ?_
 show Χ _ _ (Builtin.Dict.updateFrom "dict.__init__" s.heap.objs.size (.ref l) [] .none) _ _ _
 unfold Builtin.Dict.updateFrom;refine Ι (jv ⟨_,hl1,rfl⟩ ?_);rw [if_pos (by decide)];refine Ι (Uc hl1 QN (by decide +kernel) (by simp [hh]) (λh2 tk2 e ne=>?_) (by decide +kernel));rw [if_pos (show (none:Option Α).isNone=true from rfl)];have hl2:=ne.keeps _ _ hl1;have hl2':h2.IsList l #[.ref T]:=⟨_,hl2,rfl,_,rfl⟩;refine Ι (wpAny_rule ?_);refine Ι (wpAny_pyIter_list hl2' ?_);refine Ρ ⟨plainId_quiet XW _,?_⟩;have lI:l<h2.objs.size:=Ψ hl2;have h3:A.in1.in1.handled=none:=by simp [hh]
 have W:=((Walks.list h3 h2.objs.size l (ο lI) #[ae T]).toS:WalksS prog w A.in1.in1 _ _ _ _ _ _ _);refine codeAny_builtin Vi ?_;rw [Around.under_plainId XW _]
 show Χ _ _ (pyNext (.ref h2.objs.size) >>= _) _ _ _
 refine Ι (W.item 0 _ _ _ (Nat.zero_lt_succ _) ⟨⟨_,af _ rfl,rfl,rfl⟩,hl2'.push _⟩ λv0 s0 hP hst hm=>?_);obtain rfl:v0 = .ref T:=by simpa using hP.symm
 obtain ⟨h4,g4,d4,tk4,os4⟩:=s0;have eg:g4=s.gens:=hm.gens;have ed:d4=s.drawn:=hm.drawn;have eo:os4=s.os:=hm.os;subst eg ed eo;have keep:∀ b o,s.heap.get? b=some o->h4.get? b=some o:=λb o e=>by
  have e2:=ne.keeps _ _ (Ο _ e);exact hm.heap b o (by simp only [Ν,ς,or_false];exact ο (Ψ e2)) (Ο _ e2)
 have jP:h4.DictOf (Y1 prog w) s.heap.objs.size []:=by
  obtain ⟨o,es,ep,ho,YG⟩:=hnew;have e2:=ne.keeps _ _ ho;exact ⟨o,es,ep,hm.heap _ _ (by simp only [Ν,ς,or_false];exact ο (Ψ e2)) (Ο _ e2),YG⟩
 obtain ⟨oT,hoT,cT,nT,dT⟩:=hT;have Jj:=keep _ _ hoT
 show Χ _ _ (holding [ae T] _ >>= _) _ _ _
 refine Ι (i9 (Ι (wpAny_tryCatch ?_)));unfold Builtin.Dict.pairItems;refine Ι (jv ⟨_,Jj,cT⟩ ?_);rw [if_pos (by decide)];refine Ι (?_:Χ _ _ (seqItems? (.ref T)) _ _ _);unfold seqItems?;refine Ι (wpAny_load Jj ?_);rw [dT];refine Ρ (Ρ ?_);have hkey:(Y1 prog w).is (.inr x) (.str x u)=true:=UH prog w x u
 show Χ _ _ (holding [iE x u,v] (dictSet s.heap.objs.size (.str x u) v)) _ _ _
 refine i9 (wpAny_dictSet_pairs (knd:=Y1 prog w) hkey jP (λh5 qm Jk=>?_) (ν _));have nI:s.heap.objs.size≠h2.objs.size:=ο (Ψ (ne.keeps _ _ (af s.heap (o:={ cls := .type "dict",data := .dict #[] }) rfl)));refine Ρ ⟨plainId_quiet XW _,?_⟩;refine codeAny_builtin Vi ?_;rw [Around.under_plainId XW _]
 show Χ _ _ (pyNext (.ref h2.objs.size) >>= _) _ _ _
 refine Ι (W.done _ _ _ (W.frame 1 _ h5 _ hst (d5 _) λb hb o e=>?_) λs6 qp=>?_)
 ·rw [Jk.2 b λz=>?_]
  ·exact e
  ·skip
   simp only [Ν,ς,or_false] at hb;rcases hb with hb | hb
   ·exact nI (z.symm.trans hb)
   ·exact absurd (Ψ hl) (by rw [<- hb,z];exact cz _)
 ·obtain ⟨h6,g6,d6,tk6,os6⟩:=s6
  have eg:g6=s.gens:=qp.gens;have ed:d6=s.drawn:=qp.drawn;have eo:os6=s.os:=qp.os;subst eg ed eo;refine Ι (Ρ (Ρ ⟨rfl,h h6 tk6 ?_ λb o e=>?_⟩))
  ·obtain ⟨o,es,ep,ho,YG⟩:=qm
   exact ⟨o,es,ep,qp.heap _ _ (by simp only [Ν,ς,or_false];exact nI) ho,YG⟩
  ·have e1:=keep b o e
   refine qp.heap b o (by simp only [Ν,ς,or_false];exact λz=>absurd (Ψ (ne.keeps _ _ (Ο _ e))) (by rw [z];exact cz _)) ?_;rw [Jk.2 b λz=>absurd (Ψ e) (by rw [z];exact cz _)];exact e1
end
section
variable {X:Cx}
theorem QO (hc:X.calm=true:=by rfl):XU X (.type "dict") (λxs H Q=>∃ (l T:Addr) (x:Str) (v:V),xs=[.ref l]/\au X.K H l [.ref T]/\aJ X.K H T [.str x,v]/\∀ a,H a=none->Q (.ref a) (upd H a (.dK [(.inr x,v)]))):=by
 intro pins s σ H xs us Q I r h;obtain ⟨l,T,x,v,rfl,hS,hT,q⟩:=h;obtain ⟨u,rfl,ru⟩:=WE r;obtain rfl:u=ae l:=ru;obtain ⟨its,r',pl,hz⟩:=I.list hS;obtain ⟨jts,t',pt,hz2⟩:=I.tuple hT;obtain ⟨v1,rfl,rv1⟩:=WE r';obtain rfl:v1=ae T:=rv1;obtain ⟨w1,w2,rfl,k1,k2⟩:=uO t';obtain ⟨tk,rfl⟩:=k1;refine Ya4 (I.ok.hd hc) pl pt λh' tk' hD hk=>?_
 refine ⟨.ref s.heap.objs.size,_,I.laid (o := .dK [(.inr x,v)]) (λb o e=>hk b o e) (Κ _) ?_,rfl,q _ (I.hok.fresh (Κ _))⟩;exact ⟨show 1<=sizeLine by decide,beq_eq_false_iff_ne.mpr (ai (ο I.big)),_,.cons ⟨rfl,k2⟩ .nil,hD⟩
theorem Yeo {K:Θ} (hK:X.K=K:=by rfl):bM X (di .Add) (Jf K):=by
 subst hK;exact Yfe
end
end L2
set_option maxHeartbeats 8000000
namespace KW
open PySem L2
def top (i:Nat):Stmt:=PySem.Challenge.pw_countgen_k42_sieved.main.body.getD i (.Pass ⟨0,0,0,0⟩)
abbrev UU:Stmt:=top 2
theorem Yep:ak ["thing"] ["thing"] (Yj UU):=⟨rfl,rfl,rfl,by decide +kernel,rfl,by decide +kernel,by decide +kernel⟩
abbrev zc:Stmt:=top 9
theorem Jl:ak ["shape","kind"] ["shape"] (Yj zc):=⟨rfl,rfl,rfl,by decide +kernel,rfl,by decide +kernel,by decide +kernel⟩
abbrev zf:Stmt:=top 11
theorem Jm:ak ["book","name","pair"] ["book","name"] (Yj zf):=⟨rfl,rfl,rfl,by decide +kernel,rfl,by decide +kernel,by decide +kernel⟩
abbrev zj:Stmt:=top 20
theorem Ydg:ak ["blocks"] ["blocks"] (Yj zj):=⟨rfl,rfl,rfl,by decide +kernel,rfl,by decide +kernel,by decide +kernel⟩
abbrev zm:Stmt:=top 21
theorem ni:ak ["blocks","number","place","left","rest"] ["blocks","number"] (Yj zm):=⟨rfl,rfl,rfl,by decide +kernel,rfl,by decide +kernel,by decide +kernel⟩
abbrev zp:Stmt:=top 26
theorem Z5k:ak ["size"] ["size"] (Yj zp):=⟨rfl,rfl,rfl,by decide +kernel,rfl,by decide +kernel,by decide +kernel⟩
abbrev zq:Stmt:=top 37
theorem Ya5:ak ["book","shape"] ["book","shape"] (Yj zq):=⟨rfl,rfl,rfl,by decide +kernel,rfl,by decide +kernel,by decide +kernel⟩
abbrev zu:Stmt:=top 39
theorem Z55:ak ["count","most"] ["count","most"] (Yj zu):=⟨rfl,rfl,rfl,by decide +kernel,rfl,by decide +kernel,by decide +kernel⟩
abbrev zx:Stmt:=top 40
theorem YbH:ak ["maker","size"] ["maker","size"] (Yj zx):=⟨rfl,rfl,rfl,by decide +kernel,rfl,by decide +kernel,by decide +kernel⟩
abbrev zy:Stmt:=top 41
theorem Jo:ak ["book","shape","size","most","maker"] ["book","shape","size","most"] (Yj zy):=⟨rfl,rfl,rfl,by decide +kernel,rfl,by decide +kernel,by decide +kernel⟩
abbrev QP:Stmt:=top 42
theorem Yfi:ak ["judge","value"] ["judge","value"] (Yj QP):=⟨rfl,rfl,rfl,by decide +kernel,rfl,by decide +kernel,by decide +kernel⟩
abbrev UV:Stmt:=top 43
theorem Yeq:ak ["book","shape","size","judge","most"] ["book","shape","size","judge","most"] (Yj UV):=⟨rfl,rfl,rfl,by decide +kernel,rfl,by decide +kernel,by decide +kernel⟩
abbrev zA:Stmt:=top 46
theorem Z62:ak ["_law_script","_law_k"] ["_law_script","_law_k"] (Yj zA):=⟨rfl,rfl,rfl,by decide +kernel,rfl,by decide +kernel,by decide +kernel⟩
abbrev zB:Stmt:=top 47
theorem jm:ak ["_law_cell","_law_k","_law_letters","_law_size_here","_law_at","_law_found","_law_j","_law_number"] ["_law_cell","_law_k"] (Yj zB):=⟨rfl,rfl,rfl,by decide +kernel,rfl,by decide +kernel,by decide +kernel⟩
abbrev zE:Stmt:=top 48
theorem lC:ak ["_law_signs","_law_size_here","_law_found","_law_k","_law_more","_law_value"] ["_law_signs","_law_size_here"] (Yj zE):=⟨rfl,rfl,rfl,by decide +kernel,rfl,by decide +kernel,by decide +kernel⟩
abbrev zF:Stmt:=top 49
theorem vf:ak ["_law_low","_law_high","_law_size_here","_law_first","_law_k"] ["_law_low","_law_high","_law_size_here"] (Yj zF):=⟨rfl,rfl,rfl,by decide +kernel,rfl,by decide +kernel,by decide +kernel⟩
abbrev zG:Stmt:=top 50
theorem nj:ak ["_law_book","_law_parts","_law_size_here","_law_found","_law_first","_law_rests","_law_thing"] ["_law_book","_law_parts","_law_size_here"] (Yj zG):=⟨rfl,rfl,rfl,by decide +kernel,rfl,by decide +kernel,by decide +kernel⟩
abbrev zH:Stmt:=top 51
theorem nq:ak ["_law_book","_law_part","_law_size_here","_law_found","_law_first","_law_rests","_law_thing"] ["_law_book","_law_part","_law_size_here"] (Yj zH):=⟨rfl,rfl,rfl,by decide +kernel,rfl,by decide +kernel,by decide +kernel⟩
abbrev zJ:Stmt:=top 52
theorem nA:ak ["_law_book","_law_shape_here","_law_size_here","_law_things","_law_found","_law_mark","_law_part"] ["_law_book","_law_shape_here","_law_size_here"] (Yj zJ):=⟨rfl,rfl,rfl,by decide +kernel,rfl,by decide +kernel,by decide +kernel⟩
abbrev zK:Stmt:=top 53
theorem qt:ak ["_law_cell","_law_low","_law_letters","_law_start","_law_signs"] ["_law_cell"] (Yj zK):=⟨rfl,rfl,rfl,by decide +kernel,rfl,by decide +kernel,by decide +kernel⟩
abbrev zL:Stmt:=top 54
theorem qu:ak ["_law_script","_law_deep","_law_at","_law_name_here","_law_cell","_law_way","_law_one","_law_other"] ["_law_script","_law_deep","_law_at","_law_name_here"] (Yj zL):=⟨rfl,rfl,rfl,by decide +kernel,rfl,by decide +kernel,by decide +kernel⟩
abbrev zM:Stmt:=top 55
theorem zN:ak ["_law_book","_law_shape_here","_law_want","_law_most","_law_size_here"] ["_law_book","_law_shape_here","_law_want","_law_most"] (Yj zM):=⟨rfl,rfl,rfl,by decide +kernel,rfl,by decide +kernel,by decide +kernel⟩
abbrev zO:Stmt:=top 56
theorem YbI:ak ["_law_one","_law_other"] ["_law_one","_law_other"] (Yj zO):=⟨rfl,rfl,rfl,by decide +kernel,rfl,by decide +kernel,by decide +kernel⟩
abbrev zP:Stmt:=top 57
theorem Z5J:ak ["_law_one","_law_other"] ["_law_one","_law_other"] (Yj zP):=⟨rfl,rfl,rfl,by decide +kernel,rfl,by decide +kernel,by decide +kernel⟩
abbrev vg:Stmt:=top 58
theorem Jp:ak ["_law_due","_law_script","_law_turn","_law_judge_here"] ["_law_due","_law_script","_law_turn"] (Yj vg):=⟨rfl,rfl,rfl,by decide +kernel,rfl,by decide +kernel,by decide +kernel⟩
abbrev vh:Stmt:=top 59
theorem Wj:ak ["_law_script","_law_name_here","_law_book","_law_shape_here","_law_size_here","_law_due","_law_turn","_law_judge_here","_law_left"] ["_law_script"] (Yj vh):=⟨rfl,rfl,rfl,by decide +kernel,rfl,by decide +kernel,by decide +kernel⟩
abbrev zQ:Stmt:=Yz (top 36) 0
theorem Z58:ak ["self","book"] ["self","book"] (Yj zQ):=⟨rfl,rfl,rfl,by decide +kernel,rfl,by decide +kernel,by decide +kernel⟩
abbrev zR:Stmt:=Yz (top 36) 1
theorem Z59:ak ["self","shape"] ["self","shape"] (Yj zR):=⟨rfl,rfl,rfl,by decide +kernel,rfl,by decide +kernel,by decide +kernel⟩
abbrev zT:Stmt:=Yz (top 36) 2
theorem Jq:ak ["self","shape","maker"] ["self","shape"] (Yj zT):=⟨rfl,rfl,rfl,by decide +kernel,rfl,by decide +kernel,by decide +kernel⟩
abbrev zU:Stmt:=Yz (top 36) 3
theorem zV:ak ["self","shape","kind","parts"] ["self","shape"] (Yj zU):=⟨rfl,rfl,rfl,by decide +kernel,rfl,by decide +kernel,by decide +kernel⟩
abbrev zW:Stmt:=Yz (top 27) 0
theorem Z3w:ak ["self","low","high"] ["self","low","high"] (Yj zW):=⟨rfl,rfl,rfl,by decide +kernel,rfl,by decide +kernel,by decide +kernel⟩
abbrev zX:Stmt:=Yz (top 27) 1
theorem Jr:ak ["self","size","greatest"] ["self","size"] (Yj zX):=⟨rfl,rfl,rfl,by decide +kernel,rfl,by decide +kernel,by decide +kernel⟩
abbrev zY:Stmt:=Yz (top 27) 2
theorem Z3x:ak ["self","size","number"] ["self","size","number"] (Yj zY):=⟨rfl,rfl,rfl,by decide +kernel,rfl,by decide +kernel,by decide +kernel⟩
abbrev zZ:Stmt:=Yz (top 28) 0
theorem Z3M:ak ["self","signs"] ["self","signs"] (Yj zZ):=⟨rfl,rfl,rfl,by decide +kernel,rfl,by decide +kernel,by decide +kernel⟩
abbrev z6:Stmt:=Yz (top 28) 1
theorem Z3N:ak ["self","size"] ["self","size"] (Yj z6):=⟨rfl,rfl,rfl,by decide +kernel,rfl,by decide +kernel,by decide +kernel⟩
abbrev z7:Stmt:=Yz (top 28) 2
theorem qw:ak ["self","size","number","found","left","each"] ["self","size","number"] (Yj z7):=⟨rfl,rfl,rfl,by decide +kernel,rfl,by decide +kernel,by decide +kernel⟩
abbrev z8:Stmt:=Yz (top 22) 0
theorem Z4e:ak ["self","parts"] ["self","parts"] (Yj z8):=⟨rfl,rfl,rfl,by decide +kernel,rfl,by decide +kernel,by decide +kernel⟩
abbrev z9:Stmt:=Yz (top 22) 1
theorem Z4R:ak ["self","place","left"] ["self","place","left"] (Yj z9):=⟨rfl,rfl,rfl,by decide +kernel,rfl,by decide +kernel,by decide +kernel⟩
abbrev Aa:Stmt:=Yz (top 22) 2
theorem Js:ak ["self","size","place"] ["self","size"] (Yj Aa):=⟨rfl,rfl,rfl,by decide +kernel,rfl,by decide +kernel,by decide +kernel⟩
abbrev Ac:Stmt:=Yz (top 22) 3
theorem Jt:ak ["self","place","left","part"] ["self","place","left"] (Yj Ac):=⟨rfl,rfl,rfl,by decide +kernel,rfl,by decide +kernel,by decide +kernel⟩
abbrev Ad:Stmt:=Yz (top 29) 0
theorem Z4f:ak ["self","parts"] ["self","parts"] (Yj Ad):=⟨rfl,rfl,rfl,by decide +kernel,rfl,by decide +kernel,by decide +kernel⟩
abbrev Ae:Stmt:=Yz (top 29) 1
theorem Z4g:ak ["self","size"] ["self","size"] (Yj Ae):=⟨rfl,rfl,rfl,by decide +kernel,rfl,by decide +kernel,by decide +kernel⟩
abbrev Af:Stmt:=Yz (top 29) 2
theorem ZU:ak ["self","size","number","things","left","rest","place","part","found"] ["self","size","number"] (Yj Af):=⟨rfl,rfl,rfl,by decide +kernel,rfl,by decide +kernel,by decide +kernel⟩
abbrev Ag:Stmt:=Yz (top 33) 0
theorem Z3O:ak ["self","marks","parts"] ["self","marks","parts"] (Yj Ag):=⟨rfl,rfl,rfl,by decide +kernel,rfl,by decide +kernel,by decide +kernel⟩
abbrev Ah:Stmt:=Yz (top 33) 1
theorem Z3y:ak ["self","size"] ["self","size"] (Yj Ah):=⟨rfl,rfl,rfl,by decide +kernel,rfl,by decide +kernel,by decide +kernel⟩
abbrev Ai:Stmt:=Yz (top 33) 2
theorem Z3P:ak ["self","size"] ["self","size"] (Yj Ai):=⟨rfl,rfl,rfl,by decide +kernel,rfl,by decide +kernel,by decide +kernel⟩
abbrev Aj:Stmt:=Yz (top 33) 3
theorem Ju:ak ["self","size","number","found"] ["self","size","number"] (Yj Aj):=⟨rfl,rfl,rfl,by decide +kernel,rfl,by decide +kernel,by decide +kernel⟩
abbrev Ak:Stmt:=Yz (top 30) 0
theorem Z3Q:ak ["self","part"] ["self","part"] (Yj Ak):=⟨rfl,rfl,rfl,by decide +kernel,rfl,by decide +kernel,by decide +kernel⟩
abbrev Al:Stmt:=Yz (top 30) 1
theorem Z3z:ak ["self","left"] ["self","left"] (Yj Al):=⟨rfl,rfl,rfl,by decide +kernel,rfl,by decide +kernel,by decide +kernel⟩
abbrev Am:Stmt:=Yz (top 30) 2
theorem Z3R:ak ["self","size"] ["self","size"] (Yj Am):=⟨rfl,rfl,rfl,by decide +kernel,rfl,by decide +kernel,by decide +kernel⟩
abbrev Ao:Stmt:=Yz (top 30) 3
theorem lD:ak ["self","size","number","things","left","rest","found"] ["self","size","number"] (Yj Ao):=⟨rfl,rfl,rfl,by decide +kernel,rfl,by decide +kernel,by decide +kernel⟩
abbrev Aq:Stmt:=Yz (top 32) 0
theorem Z3A:ak ["self","part","times"] ["self","part","times"] (Yj Aq):=⟨rfl,rfl,rfl,by decide +kernel,rfl,by decide +kernel,by decide +kernel⟩
abbrev Ar:Stmt:=Yz (top 32) 1
theorem Z3B:ak ["self","size"] ["self","size"] (Yj Ar):=⟨rfl,rfl,rfl,by decide +kernel,rfl,by decide +kernel,by decide +kernel⟩
abbrev Av:Stmt:=Yz (top 32) 2
theorem Z3C:ak ["self","size","number"] ["self","size","number"] (Yj Av):=⟨rfl,rfl,rfl,by decide +kernel,rfl,by decide +kernel,by decide +kernel⟩
abbrev Aw:Stmt:=Yz (top 34) 0
theorem Z4h:ak ["self"] ["self"] (Yj Aw):=⟨rfl,rfl,rfl,by decide +kernel,rfl,by decide +kernel,by decide +kernel⟩
abbrev Ax:Stmt:=Yz (top 34) 1
theorem Z4i:ak ["self","size"] ["self","size"] (Yj Ax):=⟨rfl,rfl,rfl,by decide +kernel,rfl,by decide +kernel,by decide +kernel⟩
abbrev Ay:Stmt:=Yz (top 34) 2
theorem Z4j:ak ["self","size","number"] ["self","size","number"] (Yj Ay):=⟨rfl,rfl,rfl,by decide +kernel,rfl,by decide +kernel,by decide +kernel⟩
abbrev Az:Stmt:=Yz (top 19) 0
theorem Z5l:ak ["self","place","choice","rest"] ["self","place","choice","rest"] (Yj Az):=⟨rfl,rfl,rfl,by decide +kernel,rfl,by decide +kernel,by decide +kernel⟩
abbrev Ba:Stmt:=Yz (top 25) 0
theorem Z5m:ak ["self"] ["self"] (Yj Ba):=⟨rfl,rfl,rfl,by decide +kernel,rfl,by decide +kernel,by decide +kernel⟩
abbrev vm:Stmt:=Yz (top 25) 1
theorem Z3D:ak ["self","size"] ["self","size"] (Yj vm):=⟨rfl,rfl,rfl,by decide +kernel,rfl,by decide +kernel,by decide +kernel⟩
abbrev Jv:Stmt:=Yz (top 25) 1
abbrev Jw:Stmt:=Yz (top 25) 1
abbrev Jx:Stmt:=Yz (top 25) 1
abbrev Jy:Stmt:=Yz (top 25) 1
abbrev Jz:Stmt:=Yz (top 25) 1
abbrev JB:Stmt:=Yz (top 25) 1
abbrev vo:Stmt:=inDef vg 0
theorem JC:ig ["_law_value","_law_k","_law_turn","_law_script","_law_due"] ["_law_value"] ["_law_turn","_law_script","_law_due"] (Yj vo):=⟨rfl,rfl,rfl,by decide +kernel,rfl,rfl,by decide,by decide +kernel,by decide +kernel,by decide +kernel,by decide +kernel⟩
abbrev nD:Str:="_law_judge.<locals>._law_judge_here"
theorem Ww:((("_law_judge":Str)++(".<locals>.":Str))++("_law_judge_here":Str))=nD:=by decide +kernel
abbrev vp (cl:List (Str×Addr)) (c:Addr) (doc pm ctv:Α):FuncData:=W.fnX "_law_judge_here" nD (YV vo) (YI vo) (Yj vo) cl .none .none doc pm none (.ref c) ctv
variable {g:Gx}
local macro_rules|`(tactic|walk_at "rd")=>do
 let f:=fun (s:String)=>do
  let r←Lean.Macro.resolveGlobalName s.toName
  pure (Lean.mkCIdent (r.headD (s.toName,[])).1)
 let m1←("L2.XN Hv Hw χ fb ω iX List.cons_append iS List.replicate_succ List.replicate_zero Nat.reduceAdd Nat.reduceSub We sW xP mX tC UK iD rI rU xu sV FZ wY wX FT FW uJ Yv Qb UM mZ VE yN HX HW tE uP Ut Qd Ends.gone tB sS wN sU wQ wR FQ wW Gq QA xU xW wZ sY uT uU xY tH tG Vn yL HN yM HJ Hj yq Hi Ib yO QI za Ia HD HF xZ yg tO QE UQ xJ xK tU GK xg uK Yy List.getD_cons_zero List.getD_cons_succ List.getElem?_cons_zero List.getElem?_cons_succ List.set_cons_zero List.set_cons_succ Fy Fz Fq Ft Fv Fw Fx tM yG xQ xR Gh Gi".splitOn " ").toArray.mapM f
 let l1:=m1
 let m2←("Nat.zero_add gc VD XD Ygs YC decide_true not_true_eq_false not_false_eq_true exists_eq_left' exists_eq_left exists_eq' exists_eq exists_and_left and_assoc Option.some.injEq V.int.injEq V.bl.injEq V.ref.injEq V.str.injEq cK and_true true_and a8 decide_eq_true_eq Bool.not_eq_true' decide_eq_false_iff_not Bool.not_not Bool.not_true Bool.not_false Bool.true_eq_false ek if_true if_false ite_true ite_false Qy uE Vm xH".splitOn " ").toArray.mapM f
 let l2:=l1++m2
 `(tactic| (dsimp (config:={ failIfUnchanged:=false }) only[$[$l1:ident],*];simp (config:={ failIfUnchanged:=false,maxSteps:=10000000 }) only[$[$l2:ident],*]))
theorem cm {i j:Int} {m n:Nat} (h1:i.natAbs<2^m) (h2:j.natAbs<2^n) (h:m+n<=100000000:=by decide):u0 i j:=⟨m,n,h1,h2,h⟩
theorem Bb {i j:Int} (h:0<=j/\j<=1000000/\i.natAbs<2^64:=by decide):tu i j:=h
theorem few {n:Nat} (h:n<=100000):n<=sizeLine:=Τ h (by decide)
theorem WY (x:Int) {j:Int} (h:0<j):∃ r:Nat,x%j=r/\(r:Int)<j:=⟨(x%j).toNat,by have:=eB x (Int.ne_of_gt h);omega,by have:=hW x h;have:=eB x (Int.ne_of_gt h);omega⟩
variable {m:Nat}
variable {src:List (Option Nat)} {te:TE} {σ:St} {H:Hp} {Q:VK}
variable {P0:δ} {w0:ι} {K:Θ} {C:Cs} {CL:Addr} {prs:aR} {w:Wo} {U O:Addr->Prop} {H H':Hp} {ls dx d B:Addr} {xs:Dx}
variable {P0:δ} {w0:ι} {K:Θ} {C:Cs} {CL:Addr} {prs:aR} {w w1:Wo} {U U1 O:Addr->Prop} {H H1 H3:Hp} {ls dx d B:Addr} {xs xs1:Dx}
variable {P0:δ} {w0:ι} {K:Θ} {C:Cs} {CL:Addr} {prs:aR} {w:Wo} {U O O':Addr->Prop} {H H':Hp} {ls dx d B:Addr} {xs:Dx}
def SameBut (p:Addr) (H H':Hp):Prop:=∀ q o,q≠p->H q=some o->H' q=some o
inductive Sh | w (lo:Int) (span:Nat) | t (sg:List Nat) | row (ps:List Sh) | pick (mk:List (List Nat)) (ps:List Sh) | many (p:Sh) | alike (p:Sh) (n:Nat) | use (x:List Nat)
def wc (span:Int) (k:Nat):Int:=if (if (1*2^k - 1:Int)<span then (1*2^k - 1:Int) else span) - 1*2^k / 2^1+1>0 then (if (1*2^k - 1:Int)<span then (1*2^k - 1:Int) else span) - 1*2^k / 2^1+1 else 0
theorem wc0 (span:Int) (k:Nat):0<=wc span k:=by
 unfold wc
 split<;>omega
mutual
def dep:Sh->Nat
 | .row ps=>YH ps+1
 | .pick _ ps=>YH ps+1
 | .many p=>dep p+1
 | .alike p _=>dep p+1
 | _=>0
def YH:List Sh->Nat
 | []=>0
 | p::ps=>max (dep p) (YH ps)
end
theorem X9 {p:Sh}:∀ {ps:List Sh},p∈ps->dep p<=YH ps
 | q::ps,h=>by
  rw [YH];rcases Ν.mp h with rfl | h
  ·omega
  ·have:=X9 h
   omega
def bf {α β γ:Type} (g:α->β->γ) (A:List α) (B:List β):List γ:=A.flatMap λa=>B.map (g a)
theorem X1 {α β γ:Type} (g:α->β->γ) (A:List α) (B:List β):(bf g A B).length=A.length*B.length:=by
 induction A with
 | nil=>simp [bf]
 | cons a A ih =>
  rw [bf,eK,Μ,Β,<- bf,ih,ω,iL,Nat.add_comm]
theorem Bc {α β γ:Type} {g:α->β->γ} {B:List β} {b:β} {j:Nat} (hb:B[j]?=some b):∀ {A:List α} {i:Nat} {a:α},A[i]?=some a->(bf g A B)[i*B.length+j]?=some (g a b)
 | [],i,a,h=>by simp at h
 | x::A,0,a,h=>by
  cases Δ h
  have hj:=(Η.mp hb).1;rw [bf,eK,Nat.zero_mul,Nat.zero_add,av (by rw [Β];exact hj),Λ,hb];rfl
 | x::A,i+1,a,h=>by
  rw [bf,eK,ax (by rw [Β,iL];omega),Β,<- bf,show (i+1)*B.length+j - B.length=i*B.length+j by rw [iL];omega];exact Bc hb (by simpa using h)
def VN {α:Type} (F:Nat->List α):Nat->List (List (List α))
 | 0=>[[[]]]
 | n+1=>VN F n++[(ζ (n+1)).flatMap λf=>bf ck (F f) ((VN F n).getD (n - f) [])]
def cC {α:Type} (F:Nat->List α) (s:Nat):List (List α):=(VN F s).getD s []
theorem VP {α:Type} (F:Nat->List α):∀ n,(VN F n).length=n+1
 | 0=>rfl
 | n+1=>by rw [VN,Μ,VP F n];rfl
theorem JD {α:Type} (F:Nat->List α):∀ n f,f<=n->(VN F n).getD f []=cC F f
 | 0,f,hf=>by cases Nat.le_zero.mp hf;rfl
 | n+1,f,hf=>by
  by_cases c:f<=n
  ·rw [VN,ah,av (by rw [VP];omega),<- ah]
   exact JD F n f c
  ·have:f=n+1:=by omega
   subst this;rfl
theorem VR {α:Type} (F:Nat->List α):cC F 0=[[]]:=rfl
theorem Wk {α β:Type} {f g:α->List β}:∀ {l:List α},(∀ x∈l,f x=g x)->l.flatMap f=l.flatMap g
 | [],_=>rfl
 | a::l,h=>by rw [eK,eK,h a (.head _),Wk λx hx=>h x (.tail _ hx)]
theorem XC {α:Type} (F:Nat->List α) (s:Nat):cC F (s+1)=(ζ (s+1)).flatMap λf=>bf ck (F f) (cC F (s - f)):=by
 show (VN F (s+1)).getD (s+1) []=_
 rw [VN,ah,ax (by rw [VP];omega),VP,gc]
 show List.flatMap _ _=_
 exact Wk λf _=>by rw [JD F s (s - f) (by omega)]
theorem Ud {α:Type} {F G:Nat->List α}:∀ {n s:Nat},(∀ f,f<n->F f=G f)->s<=n->cC F s=cC G s
 | n,0,_,_=>rfl
 | n,s+1,h,hs=>by
  rw [XC,XC];exact Wk λf hf=>by
   have:=bb.mp hf;rw [h f (by omega),Ud (n:=n) (s:=s - f) h (by omega)]
def cj (sg:List Nat):Nat->List (List Nat)
 | 0=>[[]]
 | s+1=>bf (λx c=>x++[c]) (cj sg s) sg
mutual
def bw (E:List Nat->Nat->List Γ):Sh->Nat->List Γ
 | .w lo span,s=>(ζ (wc span s).toNat).map λ(r:Nat) => .int (lo+1*2^s / 2^1+(r:Int))
 | .t sg,s=>(cj sg s).map λx => .str (S x)
 | .row ps,s=>(eV E ps s).map .tuple
 | .pick mk ps,s=>cM E mk ps s
 | .many p,s=>(cC (bw E p) s).map .list
 | .alike p n,s=>if s<n\/s%n≠0 then [] else (bw E p (s / n - 1)).map λd => .list (eW n d)
 | .use x,s=>if s=0 then [] else E x (s - 1)
def eV (E:List Nat->Nat->List Γ):List Sh->Nat->List (List Γ)
 | [],s=>if s=0 then [[]] else []
 | p::ps,s=>(ζ (s+1)).flatMap λf=>bf ck (bw E p f) (eV E ps (s - f))
def cM (E:List Nat->Nat->List Γ):List (List Nat)->List Sh->Nat->List Γ
 | mk,p::ps,s=>(bw E p s).map (λd => .tuple [.str (S (mk.headD [])),d])++cM E mk.tail ps s
 | _,[],_=>[]
end
section
 variable {E E':List Nat->Nat->List Γ} {n:Nat}
mutual
theorem Wx (h:∀ x s,s<n->E x s=E' x s):∀ (sh:Sh) (s:Nat),s<=n->bw E sh s=bw E' sh s
 | .w _ _,s,_=>by rw [bw,bw]
 | .t _,s,_=>by rw [bw,bw]
 | .row ps,s,hs=>by rw [bw,bw,UW h ps s hs]
 | .pick mk ps,s,hs=>by rw [bw,bw,JF h mk ps s hs]
 | .many p,s,hs=>by rw [bw,bw,Ud (G:=bw E' p) (n:=s) (λf hf=>Wx h p f (by omega)) (Κ _)]
 | .alike p k,s,hs=>by rw [bw,bw,Wx h p (s / k - 1) (by have:=dm s k;omega)]
 | .use x,s,hs=>by
  rw [bw,bw];by_cases c:s=0
  ·rw [if_pos c,if_pos c]
  ·rw [if_neg c,if_neg c,h x (s - 1) (by omega)]
theorem UW (h:∀ x s,s<n->E x s=E' x s):∀ (ps:List Sh) (s:Nat),s<=n->eV E ps s=eV E' ps s
 | [],s,_=>by rw [eV,eV]
 | p::ps,s,hs=>by
  rw [eV,eV];exact Wk λf hf=>by
   have:=bb.mp hf;rw [Wx h p f (by omega),UW h ps (s - f) (by omega)]
theorem JF (h:∀ x s,s<n->E x s=E' x s):∀ (mk:List (List Nat)) (ps:List Sh) (s:Nat),s<=n->cM E mk ps s=cM E' mk ps s
 | mk,[],s,_=>by rw [cM,cM]
 | mk,p::ps,s,hs=>by rw [cM,cM,Wx h p s hs,JF h mk.tail ps s hs]
end
end
def iH (bk:List Nat->Sh):Nat->List Nat->Nat->List Γ
 | 0=>λ_ _=>[]
 | n+1=>λx s=>bw (iH bk n) (bk x) s
theorem QQ (bk:List Nat->Sh):∀ (n m:Nat) (x:List Nat) (s:Nat),s<n->s<m->iH bk n x s=iH bk m x s
 | n+1,m+1,x,s,h1,h2=>Wx (n:=s) (λx' s' h=>QQ bk n m x' s' (by omega) (by omega)) (bk x) s (Κ _)
def en (bk:List Nat->Sh) (sh:Sh) (s:Nat):List PyData:=bw (iH bk s) sh s
def bR (bk:List Nat->Sh) (ps:List Sh) (s:Nat):List (List Γ):=eV (iH bk s) ps s
def cA (bk:List Nat->Sh) (mk:List (List Nat)) (ps:List Sh) (s:Nat):List PyData:=cM (iH bk s) mk ps s
section
 variable (bk:List Nat->Sh)
theorem Bd {n s:Nat} (h:s<=n) (sh:Sh):bw (iH bk n) sh s=en bk sh s:=Wx (n:=s) (λx s' h'=>QQ bk n s x s' (by omega) h') sh s (Κ _)
theorem Yhu {n s:Nat} (h:s<=n) (ps:List Sh):eV (iH bk n) ps s=bR bk ps s:=UW (n:=s) (λx s' h'=>QQ bk n s x s' (by omega) h') ps s (Κ _)
theorem qx (lo:Int) (span s:Nat):en bk (.w lo span) s=(ζ (wc span s).toNat).map λ(r:Nat) => .int (lo+1*2^s / 2^1+(r:Int)):=by rw [en,bw]
theorem VT (sg:List Nat) (s:Nat):en bk (.t sg) s=(cj sg s).map λx => .str (S x):=by rw [en,bw]
theorem Vb (ps:List Sh) (s:Nat):en bk (.row ps) s=(bR bk ps s).map .tuple:=by rw [en,bw,bR]
theorem WZ (mk:List (List Nat)) (ps:List Sh) (s:Nat):en bk (.pick mk ps) s=cA bk mk ps s:=by rw [en,bw,cA]
theorem XR (mk:List (List Nat)) (p:Sh) (ps:List Sh) (s:Nat):cA bk mk (p::ps) s=(en bk p s).map (λd => .tuple [.str (S (mk.headD [])),d])++cA bk mk.tail ps s:=by rw [cA,cM,en,cA]
theorem Xs (p:Sh) (s:Nat):en bk (.many p) s=(cC (en bk p) s).map .list:=by rw [en,bw,Ud (G:=en bk p) (n:=s) (λf hf=>Bd bk (by omega) p) (Κ _)]
theorem Vc (p:Sh) (n s:Nat):en bk (.alike p n) s=if s<n\/s%n≠0 then [] else (en bk p (s / n - 1)).map λd => .list (eW n d):=by
 rw [en,bw,Bd bk (by have:=dm s n;omega) p]
theorem Uz (x:List Nat):en bk (.use x) 0=[]:=by rw [en,bw,if_pos rfl]
theorem Ue (x:List Nat) (s:Nat):en bk (.use x) (s+1)=en bk (bk x) s:=by
 rw [en,bw,if_neg (by omega)];rfl
theorem Wa (s:Nat):bR bk [] s=if s=0 then [[]] else []:=by rw [bR,eV]
theorem XX (p:Sh) (ps:List Sh) (s:Nat):bR bk (p::ps) s=(ζ (s+1)).flatMap λf=>bf ck (en bk p f) (bR bk ps (s - f)):=by
 rw [bR,eV];exact Wk λf hf=>by
  have:=bb.mp hf;rw [Bd bk (by omega) p,Yhu bk (by omega) ps]
def cnt (sh:Sh) (s:Nat):Int:=((en bk sh s).length:Int)
def YY (ps:List Sh) (s:Nat):Int:=((bR bk ps s).length:Int)
theorem Bf {α:Type} (g:α->Nat):∀ l:List α,(((l.map g).sum:Nat):Int)=(l.map λx=>(g x:Int)).sum
 | []=>rfl
 | a::l=>by rw [χ,χ,eC,eC,eA,Bf g l]
theorem JG {α β γ:Type} (g:α->β->γ) (A:Nat->List α) (B:Nat->List β) (l:List Nat):(((l.flatMap λf=>bf g (A f) (B f)).length:Nat):Int)=(l.map λf=>((A f).length:Int)*((B f).length:Int)).sum:=by
 rw [List.length_flatMap,Bf]
 congr 1
 exact a9 λf _=>by rw [X1,fE]
theorem tZ (sh:Sh) (s:Nat):0<=cnt bk sh s:=fI _
theorem Ew (ps:List Sh) (s:Nat):0<=YY bk ps s:=fI _
theorem JH (lo:Int) (span s:Nat):cnt bk (.w lo span) s=wc span s:=by
 rw [cnt,qx,Β,a4,Int.toNat_of_nonneg (wc0 _ _)]
theorem Yhv (sg:List Nat):cnt bk (.t sg) 0=1:=by rw [cnt,VT];rfl
theorem Yhw (sg:List Nat) (s:Nat):cnt bk (.t sg) (s+1)=sg.length*cnt bk (.t sg) s:=by
 rw [cnt,cnt,VT,VT,Β,Β,cj,X1,fE,Int.mul_comm]
theorem QR (ps:List Sh) (s:Nat):cnt bk (.row ps) s=YY bk ps s:=by rw [cnt,Vb,Β,YY]
theorem JK (s:Nat):YY bk [] s=if s=0 then 1 else 0:=by
 rw [YY,Wa]
 split<;>rfl
theorem JL (p:Sh) (ps:List Sh) (s:Nat):YY bk (p::ps) s=((ζ (s+1)).map λf=>cnt bk p f*YY bk ps (s - f)).sum:=by
 rw [YY,XX,JG];rfl
theorem JM (mk:List (List Nat)) (ps:List Sh) (s:Nat):cnt bk (.pick mk ps) s=(ps.map λp=>cnt bk p s).sum:=by
 rw [cnt,WZ]
 induction ps generalizing mk with
 | nil=>rw [cA,cM];rfl
 | cons p ps ih=>rw [XR,Μ,Β,eA,ih,χ,eC];rfl
theorem JN (p:Sh):cnt bk (.many p) 0=1:=by rw [cnt,Xs];rfl
theorem Yfj (p:Sh) (s:Nat):cnt bk (.many p) (s+1)=((ζ (s+1)).map λf=>cnt bk p f*cnt bk (.many p) (s - f)).sum:=by
 rw [cnt,Xs,Β,XC,JG]
 congr 1
 exact a9 λf _=>by rw [cnt,cnt,Xs,Β]
theorem Uf (p:Sh) (n s:Nat):cnt bk (.alike p n) s=if s<n\/s%n≠0 then 0 else cnt bk p (s / n - 1):=by
 rw [cnt,Vc]
 split
 ·rfl
 ·rw [Β,cnt]
theorem JQ (x:List Nat):cnt bk (.use x) 0=0:=by rw [cnt,Uz];rfl
theorem JR (x:List Nat) (s:Nat):cnt bk (.use x) (s+1)=cnt bk (bk x) s:=by rw [cnt,Ue,cnt]
end
mutual
def kd:Sh->Γ
 | .w lo span => .tuple [.str "whole",.int lo,.int (lo+span)]
 | .t sg => .tuple [.str "text",.str (S sg)]
 | .row ps => .tuple [.str "row",.tuple (bQ ps)]
 | .pick mk ps => .tuple [.str "pick",.tuple (kdp mk ps)]
 | .many p => .tuple [.str "many",kd p]
 | .alike p n => .tuple [.str "alike",kd p,.int n]
 | .use x => .tuple [.str "use",.str (S x)]
def bQ:List Sh->List Γ
 | []=>[]
 | p::ps=>kd p::bQ ps
def kdp:List (List Nat)->List Sh->List Γ
 | m::mk,p::ps => .tuple [.str (S m),kd p]::kdp mk ps
 | _,_=>[]
end
def Xh (f:Nat->Int) (n:Nat):List V:=(ζ n).map λk=>V.int (f k)
theorem Xv (f:Nat->Int) (n:Nat):(Xh f n).length=n:=by simp [Xh]
theorem Vj (f:Nat->Int) (n:Nat):Xh f (n+1)=Xh f n++[.int (f n)]:=by simp [Xh,dn]
theorem UA (f:Nat->Int) {n i:Nat} (h:i<n):dZ (Xh f n) (i:Int)=some (.int (f i)):=Yo (by simp [Xh,h])
theorem dle (x k:Nat):decide ((x:Int)<=(k:Int))=decide (x<=k):=decide_eq_decide.mpr (by omega)
structure Cs where
 (w t row tab pick many alike use:Addr)
structure Wo where
 bk:List Nat->Sh
 reg:Addr->Option Sh
 D:Addr->Option (Addr×Nat)
 M:Nat
structure Sw where
 ns:Addr->Nat
 ms:Addr->Nat->Nat
 U:Addr->Prop
def Ug (C:Cs):Sh->Addr
 | .w _ _=>C.w
 | .t _=>C.t
 | .row _=>C.row
 | .pick _ _=>C.pick
 | .many _=>C.many
 | .alike _ _=>C.alike
 | .use _=>C.use
def WM (reg:Addr->Option Sh) (as:List Addr) (ps:List Sh):Prop:=as.length=ps.length/\∀ (i:Nat) a p,as[i]?=some a->ps[i]?=some p->reg a=some p
def sm (x:Int):Prop:=∃ n:Nat,n<=10000000/\x.natAbs<2^n
def Un (w:Wo) (t:Sw) (b:Addr):Prop:=w.D b=none/\t.U b
def fW (lo:Int) (span:Nat):List (Str×V):=[("low",.int lo),("span",.int span)]
def fR (P T:Addr):List (Str×V):=[("parts",.ref P),("table",.ref T)]
def Wy (P L:Addr):List (Str×V):=[("parts",.ref P),("ways",.ref L)]
def fP (M P:Addr):List (Str×V):=[("marks",.ref M),("parts",.ref P)]
def fT (sg:List Nat):List (Str×V):=[("signs",.str (S sg))]
def fM (a:Addr):List (Str×V):=[("part",.ref a)]
def fA (n:Nat) (a:Addr):List (Str×V):=[("part",.ref a),("times",.int n)]
def fU (a:V):List (Str×V):=[("named",a)]
def mf (c:Addr) (fs:List (Str×V)):List (Str×V):=("counts",.ref c)::fs
structure gQ (w:Wo) (t:Sw) (p:Addr) (as:List Addr) (ps:List Sh):Prop where
 len:as.length=ps.length
 reg:∀ (i:Nat) a p,as[i]?=some a->ps[i]?=some p->w.reg a=some p
 cn:∀ a∈as,t.ns p<=t.ns a
structure gn (w:Wo) (t:Sw) (p:Addr) (as:List Addr) (ps:List Sh):Prop where
 len:as.length=ps.length
 reg:∀ (i:Nat) a p,as[i]?=some a->ps[i]?=some p->w.reg a=some p
 cn:∀ (i:Nat) a,as[i]?=some a->t.ms p i<=t.ns a
def UB (C:Cs) (H:Hp) (q:Addr) (i:Nat) (a:Addr):Prop:=∃ dx c P T,∃ as:List Addr,H q=some (.ins C.row dx (mf c (fR P T)))/\H P=some (.lst (as.map V.ref))/\as[i]?=some a
def pf:Sh->Nat->Nat
 | .many _,n=>n - 1
 | .alike _ k,n=>(n - 1) / k
 | .use _,n=>n - 1
 | _,n=>n
inductive One (w:Wo) (t:Sw) (p:Addr) (sh q:Sh) (F:Addr->List (Str×V)) (fs:List (Str×V)):Prop
 | mk (a:Addr) (e:fs=F a) (r:w.reg a=some q) (n:pf sh (t.ns p)<=t.ns a)
def Sub (C:Cs) (w:Wo) (t:Sw) (H:Hp) (p:Addr):Sh->List (Str×V)->Prop
 | .w lo span,fs=>fs=fW lo span
 | .t sg,fs=>fs=fT sg/\sg.length<=62
 | .row ps,fs=>∃ (P T dt L:Addr) (as ws:List Addr),fs=fR P T/\Un w t P/\Un w t T/\Un w t L/\H P=some (.lst (as.map V.ref))/\gn w t p as ps/\ps.length<=100 /\
   H T=some (.ins C.tab dt (Wy P L))/\H L=some (.lst (ws.map V.ref))/\ws.length=ps.length+1 /\
   (∀ (i:Nat) x,ws[i]?=some x->w.D x=some (p,i+1)/\t.ns p<=t.ms p i/\t.ms p i<=60/\H x=some (.lst (Xh (YY w.bk (ps.drop i)) (t.ms p i))))/\∀ i s,s<=45->sm (YY w.bk (ps.drop i) s)
 | .pick mk ps,fs=>∃ (M P:Addr) (as:List Addr),fs=fP M P/\Un w t M/\Un w t P/\H M=some (.lst (mk.map λm=>V.str (S m)))/\H P=some (.lst (as.map V.ref))/\gQ w t p as ps/\ps.length<=100
 | .many q,fs=>One w t p (.many q) q fM fs
 | .alike q n,fs=>One w t p (.alike q n) q (fA n) fs/\1<=n/\n<=100
 | .use x,fs=>One w t p (.use x) (w.bk x) (λa=>fU (.ref a)) fs
def vA (H:Hp):Sh->List (Str×V)->List Addr->Prop
 | .w _ _,_,as=>as=[]
 | .t _,_,as=>as=[]
 | .row _,_,as=>as=[]
 | .pick _ _,fs,as=>∃ M P,fs=fP M P/\H P=some (.lst (as.map V.ref))
 | .many _,fs,as=>∃ a,fs=fM a/\as=[a]
 | .alike _ n,fs,as=>∃ a,fs=fA n a/\as=[a]
 | .use _,fs,as=>∃ a,fs=fU (.ref a)/\as=[a]
def Wl (C:Cs) (w:Wo) (t:Sw) (H:Hp) (p:Addr) (sh:Sh):Prop:=∃ (dx c:Addr) (fs:List (Str×V)),Un w t p/\dep sh<=w.M/\(∀ s,s<=45->sm (cnt w.bk sh s))/\t.ns p<=60/\H p=some (.ins (Ug C sh) dx (mf c fs))/\w.D c=some (p,0)/\H c=some (.lst (Xh (cnt w.bk sh) (t.ns p)))/\Sub C w t H p sh fs
structure WI (C:Cs) (w:Wo) (t:Sw) (H:Hp):Prop where
 at_:∀ p sh,w.reg p=some sh->Wl C w t H p sh
 al:∀ b,t.U b->H b≠none
 ow:∀ b x,w.D b=some x->t.U b
 inj:∀ b b' x,w.D b=some x->w.D b'=some x->b=b'
theorem Sub.keep {C:Cs} {w:Wo} {t:Sw} {H H':Hp} {p:Addr} (ow:∀ b x,w.D b=some x->t.U b) (hk:∀ b o,t.U b->H b=some o->H' b=some o):∀ {sh:Sh} {fs:List (Str×V)},Sub C w t H p sh fs->Sub C w t H' p sh fs
 | .w lo span,fs,h=>h
 | .t sg,fs,h=>h
 | .many q,fs,h=>h
 | .alike q n,fs,h=>h
 | .row ps,fs,h=>by
  obtain ⟨P,T,dt,L,as,ws,h1,h2,h3,h4,h5,h6,h7,h8,h9,h10,h11,h12⟩:=h;exact ⟨P,T,dt,L,as,ws,h1,h2,h3,h4,hk _ _ h2.2 h5,h6,h7,hk _ _ h3.2 h8,hk _ _ h4.2 h9,h10,λi x hx=>⟨(h11 i x hx).1,(h11 i x hx).2.1,(h11 i x hx).2.2.1,hk _ _ (ow _ _ (h11 i x hx).1) (h11 i x hx).2.2.2⟩,h12⟩
 | .pick mk ps,fs,h=>by
  obtain ⟨M,P,as,h1,h2,h3,h4,h5,h6,h7⟩:=h;exact ⟨M,P,as,h1,h2,h3,hk _ _ h2.2 h4,hk _ _ h3.2 h5,h6,h7⟩
 | .use x,fs,h=>h
theorem WI.keep {C:Cs} {w:Wo} {t:Sw} {H H':Hp} (h:WI C w t H) (hk:∀ b o,t.U b->H b=some o->H' b=some o):WI C w t H':=by
 refine ⟨λp sh hr=>?_,λb hb=>?_,h.ow,h.inj⟩
 ·obtain ⟨dx,c,fs,h1,h2,h3,h4,h5,h6,h7,h8⟩:=h.at_ p sh hr
  exact ⟨dx,c,fs,h1,h2,h3,h4,hk _ _ h1.2 h5,h6,hk _ _ (h.ow _ _ h6) h7,h8.keep h.ow hk⟩
 ·have:=h.al b hb
  cases e:H b with
  | none=>exact absurd e this
  | some o=>rw [hk b o hb e];intro z;cases z
theorem WI.same {C:Cs} {w:Wo} {t:Sw} {H H':Hp} (h:WI C w t H) (s:Yk H H'):WI C w t H':=h.keep λb o _ e=>s _ _ e
theorem WI.new {C:Cs} {w:Wo} {t:Sw} {H:Hp} (h:WI C w t H) {a:Addr} (ha:H a=none):w.D a=none/\¬ t.U a:=by
 have n:¬ t.U a:=λz=>h.al a z ha
 refine ⟨?_,n⟩
 cases e:w.D a with
 | none=>rfl
 | some x=>exact absurd (h.ow a x e) n
theorem WI.loc {C:Cs} {w:Wo} {t:Sw} {H:Hp} (h:WI C w t H) {a:Addr} (ha:¬ t.U a) (o:HO):WI C w t (upd H a o):=h.keep λb u hb e=>by rw [Ye λz=>ha (by rw [<- z];exact hb)];exact e
def Sw.bT (t:Sw) (p:Addr) (n:Nat):Sw:={ t with ns:=λq=>if q=p then n else t.ns q }
def Sw.iV (t:Sw) (p:Addr) (i n:Nat):Sw:={ t with ms:=λq j=>if q=p/\i<=j then n else t.ms q j }
theorem gQ.bT {w:Wo} {t:Sw} {p q:Addr} {as:List Addr} {ps:List Sh} {n:Nat} (h:gQ w t p as ps) (hge:t.ns q<=n) (hp:p=q->∀ a∈as,n<=t.ns a):gQ w (t.bT q n) p as ps:=⟨h.1,h.2,λa ha=>by
 show (if p=q then n else t.ns p)<=(if a=q then n else t.ns a)
 have h3:=h.3 a ha;by_cases e:p=q
 ·have:=hp e a ha
  rw [if_pos e]
  split<;>omega
 ·rw [if_neg e]
  split
  ·rename_i z;rw [z] at h3;omega
  ·exact h3⟩
theorem gn.bT {w:Wo} {t:Sw} {p q:Addr} {as:List Addr} {ps:List Sh} {n:Nat} (h:gn w t p as ps) (hge:t.ns q<=n):gn w (t.bT q n) p as ps:=⟨h.1,h.2,λi a ha=>by
 show t.ms p i<=(if a=q then n else t.ns a)
 have h3:=h.3 i a ha
 split
 ·rename_i z;rw [z] at h3;omega
 ·exact h3⟩
theorem One.bT {w:Wo} {t:Sw} {p q:Addr} {sh s:Sh} {F:Addr->List (Str×V)} {fs:List (Str×V)} {n:Nat} (h:One w t p sh s F fs) (hge:t.ns q<=n) (hp:p=q->∀ a,fs=F a->pf sh n<=t.ns a):One w (t.bT q n) p sh s F fs:=by
 obtain ⟨a,h1,h2,h3⟩:=h;refine ⟨a,h1,h2,?_⟩
 show pf sh (if p=q then n else t.ns p)<=(if a=q then n else t.ns a)
 by_cases e:p=q
 ·have:=hp e a h1
  rw [if_pos e]
  split
  ·rename_i z;rw [z] at this;omega
  ·exact this
 ·rw [if_neg e]
  split
  ·rename_i z;rw [z] at h3;omega
  ·exact h3
theorem Sub.bT {C:Cs} {w:Wo} {t:Sw} {H:Hp} {p q c:Addr} {n:Nat} {o:HO} (hc:w.D c=some (q,0)) (hge:t.ns q<=n):∀ {sh:Sh} {fs:List (Str×V)},(p=q->∀ ps,sh = .row ps->∀ i,n<=t.ms p i)->(p=q->∀ as,vA H sh fs as->∀ a∈as,pf sh n<=t.ns a)->Sub C w t H p sh fs->Sub C w (t.bT q n) (upd H c o) p sh fs
 | .w lo span,fs,_,_,h=>h
 | .t sg,fs,_,_,h=>h
 | .many s,fs,_,hpt,h=>One.bT h hge λe a ea=>hpt e [a] ⟨a,ea,rfl⟩ a (.head _)
 | .alike s k,fs,_,hpt,h=>⟨One.bT h.1 hge λe a ea=>hpt e [a] ⟨a,ea,rfl⟩ a (.head _),h.2⟩
 | .row ps,fs,gq,hpt,h=>by
  obtain ⟨P,T,dt,L,as,ws,h1,h2,h3,h4,h5,h6,h7,h8,h9,h10,h11,h12⟩:=h;have ne:∀ {b:Addr},w.D b=none->b≠c:=λe z=>by rw [z,hc] at e;cases e
  refine ⟨P,T,dt,L,as,ws,h1,h2,h3,h4,(Ye (ne h2.1)).trans h5,h6.bT hge,h7,(Ye (ne h3.1)).trans h8,(Ye (ne h4.1)).trans h9,h10,λi x hx=>⟨(h11 i x hx).1,?_,(h11 i x hx).2.2.1,?_⟩,h12⟩
  ·show (if p=q then n else t.ns p)<=t.ms p i
   by_cases e:p=q
   ·rw [if_pos e];exact gq e ps rfl i
   ·rw [if_neg e];exact (h11 i x hx).2.1
  ·rw [Ye λz=>by have:=(h11 i x hx).1;rw [z,hc] at this;injection this with this;injection this with _ this;omega]
   exact (h11 i x hx).2.2.2
 | .pick mk ps,fs,_,hpt,h=>by
  obtain ⟨M,P,as,h1,h2,h3,h4,h5,h6,h7⟩:=h;have ne:∀ {b:Addr},w.D b=none->b≠c:=λe z=>by rw [z,hc] at e;cases e
  exact ⟨M,P,as,h1,h2,h3,(Ye (ne h2.1)).trans h4,(Ye (ne h3.1)).trans h5,h6.bT hge (λe a ha=>hpt e as ⟨M,P,h1,h5⟩ a ha),h7⟩
 | .use x,fs,_,hpt,h=>One.bT h hge λe a ea=>hpt e [a] ⟨a,ea,rfl⟩ a (.head _)
theorem WI.count {C:Cs} {w:Wo} {t:Sw} {H:Hp} (h:WI C w t H) {p c:Addr} {sh:Sh} (hr:w.reg p=some sh) (hc:w.D c=some (p,0)) (hn:t.ns p<60) (gq:∀ ps,sh = .row ps->∀ i,t.ns p+1<=t.ms p i) (hpt:∀ dx c fs as,H p=some (.ins (Ug C sh) dx (mf c fs))->vA H sh fs as->∀ a∈as,pf sh (t.ns p+1)<=t.ns a):WI C w (t.bT p (t.ns p+1)) (upd H c (.lst (Xh (cnt w.bk sh) (t.ns p+1)))):=by
 refine ⟨λq sh' hr'=>?_,λb hb=>?_,h.ow,h.inj⟩
 ·obtain ⟨dx,c',fs,h1,h2,h3,h4,h5,h6,h7,h8⟩:=h.at_ q sh' hr'
  have n1:q≠c:=λz=>by have:=h1.1;rw [z,hc] at this;cases this
  refine ⟨dx,c',fs,h1,h2,h3,?_,(Ye n1).trans h5,h6,?_,h8.bT hc (d5 _) (λe ps e2=>?_) (λe as hP=>?_)⟩
  ·show (if q=p then _ else t.ns q)<=60
   split<;>omega
  ·show _=some (HO.lst (Xh _ (if q=p then _ else t.ns q)))
   by_cases e:q=p
   ·subst e
    rw [hr] at hr'
    have:=Δ hr';subst this;rw [if_pos rfl];rw [h.inj _ _ _ h6 hc,Yb]
   ·rw [if_neg e,Ye λz=>e (by rw [z,hc] at h6;injection h6 with h6;injection h6 with h6 _;exact h6.symm)]
    exact h7
  ·subst e
   rw [hr] at hr'
   exact gq ps ((Δ hr').trans e2)
  ·subst e
   rw [hr] at hr'
   cases Δ hr'
   exact hpt dx c' fs as h5 hP
 ·by_cases e:b=c
  ·rw [e,Yb];intro z;cases z
  ·rw [Ye e];exact h.al b hb
theorem Sub.iV {C:Cs} {w:Wo} {t:Sw} {H:Hp} (inj:∀ b b' x,w.D b=some x->w.D b'=some x->b=b') {p q y:Addr} {i:Nat} {qs:List Sh} {f:Nat->Int} (hq:w.reg q=some (.row qs)) (hc:w.D y=some (q,i+1)) (hf:f=YY w.bk (qs.drop i)) (hm:t.ms q i<60) (hj:∀ j,i<j->j<=qs.length->t.ms q j=t.ms q i+1):∀ {sh:Sh} {fs:List (Str×V)},w.reg p=some sh->(p=q->∀ (P T:Addr) (as:List Addr) (a:Addr),fs=fR P T->H P=some (.lst (as.map V.ref))->as[i]?=some a->t.ms q i+1<=t.ns a)->Sub C w t H p sh fs->Sub C w (t.iV q i (t.ms q i+1)) (upd H y (.lst (Xh f (t.ms q i+1)))) p sh fs
 | .w lo span,fs,_,_,h=>h
 | .t sg,fs,_,_,h=>h
 | .many s,fs,_,_,⟨a,h1,h2,h3⟩=>⟨a,h1,h2,h3⟩
 | .alike s k,fs,_,_,⟨⟨a,h1,h2,h3⟩,h⟩=>⟨⟨a,h1,h2,h3⟩,h⟩
 | .row ps,fs,hp,hpa,h=>by
  obtain ⟨P,T,dt,L,as,ws,h1,h2,h3,h4,h5,h6,h7,h8,h9,h10,h11,h12⟩:=h;have ne:∀ {b:Addr},w.D b=none->b≠y:=λe z=>by rw [z,hc] at e;cases e
  refine ⟨P,T,dt,L,as,ws,h1,h2,h3,h4,(Ye (ne h2.1)).trans h5,⟨h6.1,h6.2,λj a ha=>?_⟩,h7,(Ye (ne h3.1)).trans h8,(Ye (ne h4.1)).trans h9,h10,λj x hx=>⟨(h11 j x hx).1,?_,?_,?_⟩,h12⟩
  ·show (if p=q/\i<=j then _ else t.ms p j)<=t.ns a
   have h3:=h6.3 j a ha
   split
   ·rename_i e
    obtain ⟨rfl,hij⟩:=e;rw [hq] at hp
    cases Δ hp
    have hl:=(Η.mp ha).1;have hl2:=h6.1;by_cases e2:j=i
    ·subst e2;exact hpa rfl P T as a h1 h5 ha
    ·rw [<- hj j (by omega) (by omega)];exact h3
   ·exact h3
  ·show t.ns p<=(if p=q/\i<=j then _ else t.ms p j)
   have:=(h11 j x hx).2.1
   split
   ·rename_i e
    obtain ⟨rfl,hij⟩:=e;rw [hq] at hp
    have:=Sh.row.inj (Δ hp);subst this;have hl:=(Η.mp hx).1;by_cases e2:j=i
    ·subst e2;omega
    ·rw [<- hj j (by omega) (by omega)];exact (h11 j x hx).2.1
   ·exact this
  ·show (if p=q/\i<=j then _ else t.ms p j)<=60
   have:=(h11 j x hx).2.2.1
   split<;>omega
  ·show _=some (HO.lst (Xh _ (if p=q/\i<=j then _ else t.ms p j)))
   by_cases e:p=q/\i<=j
   ·obtain ⟨rfl,hij⟩:=e
    rw [hq] at hp
    have:=Sh.row.inj (Δ hp);subst this;rw [if_pos ⟨rfl,hij⟩];by_cases e2:j=i
    ·subst e2
     rw [inj _ _ _ (h11 j x hx).1 hc,Yb,hf]
    ·have hl:=(Η.mp hx).1
     rw [Ye λz=>e2 ?_,<- hj j (by omega) (by omega)]
     ·exact (h11 j x hx).2.2.2
     ·have:=(h11 j x hx).1
      rw [z,hc] at this
      injection this with this
      injection this with t1 t2
      omega
   ·rw [if_neg e,Ye λz=>e ?_]
    ·exact (h11 j x hx).2.2.2
    ·have:=(h11 j x hx).1
     rw [z,hc] at this
     injection this with this
     injection this with t1 t2
     exact ⟨t1.symm,by omega⟩
 | .pick mk ps,fs,_,_,h=>by
  obtain ⟨M,P,as,h1,h2,h3,h4,h5,h6,h7⟩:=h;have ne:∀ {b:Addr},w.D b=none->b≠y:=λe z=>by rw [z,hc] at e;cases e
  exact ⟨M,P,as,h1,h2,h3,(Ye (ne h2.1)).trans h4,(Ye (ne h3.1)).trans h5,⟨h6.1,h6.2,h6.3⟩,h7⟩
 | .use x,fs,_,_,⟨a,h1,h2,h3⟩=>⟨a,h1,h2,h3⟩
theorem WI.way {C:Cs} {w:Wo} {t:Sw} {H:Hp} (h:WI C w t H) {q y:Addr} {i:Nat} {qs:List Sh} (hq:w.reg q=some (.row qs)) (hc:w.D y=some (q,i+1)) (hm:t.ms q i<60) (hj:∀ j,i<j->j<=qs.length->t.ms q j=t.ms q i+1) (hpa:∀ a,UB C H q i a->t.ms q i+1<=t.ns a):WI C w (t.iV q i (t.ms q i+1)) (upd H y (.lst (Xh (YY w.bk (qs.drop i)) (t.ms q i+1)))):=by
 refine ⟨λp sh hp=>?_,λb hb=>?_,h.ow,h.inj⟩
 ·obtain ⟨dx,c,fs,h1,h2,h3,h4,h5,h6,h7,h8⟩:=h.at_ p sh hp
  have n1:p≠y:=λz=>by have:=h1.1;rw [z,hc] at this;cases this
  have n2:c≠y:=λz=>by rw [z,hc] at h6;injection h6 with h6;injection h6 with _ h6;omega
  exact ⟨dx,c,fs,h1,h2,h3,h4,(Ye n1).trans h5,h6,(Ye n2).trans h7,h8.iV h.inj hq hc rfl hm hj hp λe P T as a e1 e2 e3=>hpa a ⟨dx,c,P,T,as,by subst e;rw [hq] at hp;cases Δ hp;rw [<- e1];exact h5,e2,e3⟩⟩
 ·by_cases e:b=y
  ·rw [e,Yb];intro z;cases z
  ·rw [Ye e];exact h.al b hb
def bnd (s d:Nat) (sh:Sh):Nat:=if dep sh<d then s+1 else s
def gR (t:Sw) (p:Addr):Prop:=∀ i,t.ms p i=t.ms p 0
structure gU (t t':Sw) (p:Addr) (b:Nat):Prop where
 up:t.ns p<=t'.ns p
 le:t'.ns p<=max (t.ns p) b
 no:b<=t.ns p->t'.ms p=t.ms p
 un:gR t p->gR t' p
theorem gU.refl (t:Sw) (p:Addr) (b:Nat):gU t t p b:=⟨Κ _,Nat.le_max_left _ _,λ_=>rfl,λh=>h⟩
theorem gU.trans {t t1 t2:Sw} {p:Addr} {b:Nat} (a:gU t t1 p b) (c:gU t1 t2 p b):gU t t2 p b:=by
 have h1:=a.up;have h2:=c.up;have h3:=a.le;have h4:=c.le;exact ⟨by omega,by omega,λh=>by rw [c.no (by omega),a.no h],λh=>c.un (a.un h)⟩
theorem gU.mono {t t1:Sw} {p:Addr} {b b':Nat} (a:gU t t1 p b) (h:b<=b'):gU t t1 p b':=⟨a.up,by have:=a.le;omega,λz=>a.no (by omega),a.un⟩
theorem JT {s d s' d':Nat} (h:s'<s\/(s'=s/\d'<=d)) (sh:Sh):bnd s' d' sh<=bnd s d sh:=by
 unfold bnd
 split<;>split<;>omega
def Fr (w:Wo) (H H':Hp):Prop:=∀ b o,w.D b=none->H b=some o->H' b=some o
structure Tr (C:Cs) (w:Wo) (t:Sw) (H:Hp) (t':Sw) (H':Hp) (s d:Nat):Prop where
 wi:WI C w t' H'
 fr:Fr w H H'
 gr:∀ p sh,w.reg p=some sh->gU t t' p (bnd s d sh)
 u1:∀ b,t.U b->t'.U b
 u2:∀ b,t'.U b->t.U b\/H b=none
def Xo (w:Wo) (t:Sw) (s d:Nat):Prop:=∀ p sh,w.reg p=some sh->t.ns p<bnd s d sh->gR t p
theorem Xo.mono {w:Wo} {t:Sw} {s d s' d':Nat} (h:Xo w t s d) (c:s'<s\/(s'=s/\d'<=d)):Xo w t s' d':=λp sh hr hn=>h p sh hr (ξ hn (JT c sh))
theorem Tr.refl {C:Cs} {w:Wo} {t:Sw} {H:Hp} (h:WI C w t H) (s d:Nat):Tr C w t H t H s d:=⟨h,λ_ _ _ e=>e,λp sh _ => .refl _ _ _,λ_ h=>h,λ_ h => .inl h⟩
theorem Tr.alloc {C:Cs} {w:Wo} {t t':Sw} {H H':Hp} {s d:Nat} (T:Tr C w t H t' H' s d) {b:Addr} {o:HO} (h:H b=some o):H' b≠none:=by
 cases e:w.D b with
 | none=>rw [T.fr b o e h];intro z;cases z
 | some x=>exact T.wi.al b (T.wi.ow b x e)
theorem Tr.trans {C:Cs} {w:Wo} {t t1 t2:Sw} {H H1 H2:Hp} {s d:Nat} (a:Tr C w t H t1 H1 s d) (b:Tr C w t1 H1 t2 H2 s d):Tr C w t H t2 H2 s d :=
 ⟨b.wi,λc o e h=>b.fr c o e (a.fr c o e h),λp sh hr=>(a.gr p sh hr).trans (b.gr p sh hr),λc h=>b.u1 c (a.u1 c h),λc h=>by
  rcases b.u2 c h with h | h
  ·exact a.u2 c h
  ·cases e:H c with
   | none=>exact .inr rfl
   | some o=>exact absurd h (a.alloc e)⟩
theorem Tr.mono {C:Cs} {w:Wo} {t t1:Sw} {H H1:Hp} {s d s' d':Nat} (a:Tr C w t H t1 H1 s' d') (c:s'<s\/(s'=s/\d'<=d)):Tr C w t H t1 H1 s d:=⟨a.wi,a.fr,λp sh hr=>(a.gr p sh hr).mono (JT c sh),a.u1,a.u2⟩
theorem Tr.same {C:Cs} {w:Wo} {t t1:Sw} {H H1 H2:Hp} {s d:Nat} (a:Tr C w t H t1 H1 s d) (b:Yk H1 H2):Tr C w t H t1 H2 s d:=⟨a.wi.same b,λc o e h=>b _ _ (a.fr c o e h),a.gr,a.u1,a.u2⟩
theorem Tr.put {C:Cs} {w:Wo} {t t1:Sw} {H H1:Hp} {s d:Nat} (a:Tr C w t H t1 H1 s d) {x:Addr} (h:H x=none) (n:¬ t1.U x) (o:HO):Tr C w t H t1 (upd H1 x o) s d:=⟨a.wi.loc n o,λc u e z=>by rw [Ye (Yl z h)];exact a.fr c u e z,a.gr,a.u1,a.u2⟩
theorem Tr.ready {C:Cs} {w:Wo} {t t1:Sw} {H H1:Hp} {s d s' d':Nat} (a:Tr C w t H t1 H1 s' d') (r:Xo w t s d):Xo w t1 s d:=λp sh hr hn=>(a.gr p sh hr).un (r p sh hr (gV (a.gr p sh hr).up hn))
theorem Tr.ours {C:Cs} {w:Wo} {t t1:Sw} {H H1:Hp} {s d:Nat} (a:Tr C w t H t1 H1 s d) {x:Addr} {o:HO} (n:¬ t.U x) (h:H x=some o):¬ t1.U x:=λz=>by
 rcases a.u2 x z with z | z
 ·exact n z
 ·rw [h] at z;cases z
structure dU (C:Cs) (w:Wo) (t:Sw) (H:Hp) (t':Sw) (H':Hp) (s d:Nat) (p:Addr):Prop where
 wi:WI C w t' H'
 fr:Fr w H H'
 gr:∀ q sh,w.reg q=some sh->q≠p->gU t t' q (bnd s d sh)
 own:t'.ns p=t.ns p
 u1:∀ b,t.U b->t'.U b
 u2:∀ b,t'.U b->t.U b\/H b=none
theorem Tr.b {C:Cs} {w:Wo} {t t':Sw} {H H':Hp} {s d:Nat} {p:Addr} (T:Tr C w t H t' H' s d) (h:t'.ns p=t.ns p):dU C w t H t' H' s d p:=⟨T.wi,T.fr,λq sh hq _=>T.gr q sh hq,h,T.u1,T.u2⟩
theorem dU.trans {C:Cs} {w:Wo} {t t1 t2:Sw} {H H1 H2:Hp} {s d:Nat} {p:Addr} (a:dU C w t H t1 H1 s d p) (b:dU C w t1 H1 t2 H2 s d p):dU C w t H t2 H2 s d p :=
 ⟨b.wi,λc o e h=>b.fr c o e (a.fr c o e h),λq sh hr n=>(a.gr q sh hr n).trans (b.gr q sh hr n),b.own.trans a.own,λc h=>b.u1 c (a.u1 c h),λc h=>by
  rcases b.u2 c h with h | h
  ·exact a.u2 c h
  ·cases e:H c with
   | none=>exact .inr rfl
   | some o =>
    exfalso
    cases e2:w.D c with
    | none=>rw [a.fr c o e2 e] at h;cases h
    | some x=>exact a.wi.al c (a.wi.ow c x e2) h⟩
theorem dU.same {C:Cs} {w:Wo} {t t1:Sw} {H H1 H2:Hp} {s d:Nat} {p:Addr} (a:dU C w t H t1 H1 s d p) (b:Yk H1 H2):dU C w t H t1 H2 s d p:=⟨a.wi.same b,λc o e h=>b _ _ (a.fr c o e h),a.gr,a.own,a.u1,a.u2⟩
theorem dU.ready {C:Cs} {w:Wo} {t t1:Sw} {H H1:Hp} {s d s' d':Nat} {p:Addr} {sh:Sh} (a:dU C w t H t1 H1 s' d' p) (hg:w.reg p=some sh) (hb:bnd s d sh<=t.ns p) (r:Xo w t s d):Xo w t1 s d:=λq sh' hr hn=>by
 by_cases e:q=p
 ·subst e
  rw [hg] at hr
  have:=Δ hr;subst this;have:=a.own;omega
 ·exact (a.gr q sh' hr e).un (r q sh' hr (gV (a.gr q sh' hr e).up hn))
theorem dU.way {C:Cs} {w:Wo} {t t1:Sw} {H H1:Hp} {s d i:Nat} {p y:Addr} {ps:List Sh} (a:dU C w t H t1 H1 s d p) (hg:w.reg p=some (.row ps)) (hc:w.D y=some (p,i+1)) (hi:t1.ms p i=s) (hs:s<60) (hj:∀ j,i<j->j<=ps.length->t1.ms p j=s+1) (hpa:∀ a,UB C H1 p i a->s+1<=t1.ns a):dU C w t H (t1.iV p i (s+1)) (upd H1 y (.lst (Xh (YY w.bk (ps.drop i)) (s+1)))) s d p:=by
 have W:=a.wi.way hg hc (by omega) (λj h1 h2=>by rw [hi];exact hj j h1 h2) (λa ha=>by rw [hi];exact hpa a ha);rw [hi] at W
 refine ⟨W,λb o e h=>?_,λq sh hq n=>?_,a.own,a.u1,a.u2⟩
 ·rw [Ye λz=>by rw [z,hc] at e;cases e]
  exact a.fr b o e h
 ·have g:=a.gr q sh hq n
  have e:(t1.iV p i (s+1)).ms q=t1.ms q:=by
   funext j
   exact if_neg λz=>n z.1
  exact ⟨g.up,g.le,λh=>by rw [e];exact g.no h,λh j=>by rw [e];exact g.un h j⟩
theorem dU.to {C:Cs} {w:Wo} {t t1:Sw} {H H1:Hp} {s d:Nat} {p:Addr} {sh:Sh} (a:dU C w t H t1 H1 s d p) (hg:w.reg p=some sh) (hd:dep sh<d) (hn:t.ns p<=s) (hu:gR t1 p):Tr C w t H t1 H1 s d:=by
 refine ⟨a.wi,a.fr,λq sh' hq=>?_,a.u1,a.u2⟩;by_cases e:q=p
 ·subst e
  rw [hg] at hq
  have:=Δ hq;subst this;have eb:bnd s d sh=s+1:=if_pos hd;rw [eb];have:=a.own;exact ⟨by omega,by omega,λz=>by omega,λ_=>hu⟩
 ·exact a.gr q sh' hq e
def kind:Sh->Nat
 | .w _ _=>0
 | .t _=>1
 | .row _=>2
 | .pick _ _=>3
 | .many _=>4
 | .use _=>5
 | .alike _ _=>6
def fns:List Str:=["counts","low","span","signs","parts","table","ways","marks","part","named","times"]
def isF (m:Str):Bool:=fns.any λx=>m==x
theorem Yhx {m:Str} (h:isF m=false):∀ x∈fns,(m==x)=false:=λx hx=>eL.mpr λz=>by
 have:isF m=true:=List.any_eq_true.mpr ⟨x,hx,z⟩;rw [this] at h
 cases h
theorem QS {m:Str} (hm:isF m=false):∀ {fs:List (Str×V)},(∀ p∈fs,p.1∈fns)->fs.lookup m=none
 | [],_=>rfl
 | (x,v)::fs,h=>by
  rw [Υ,Yhx hm x (h _ (.head _))];exact QS hm λp hp=>h p (.tail _ hp)
theorem Wb (c:Addr) (fs:List (Str×V)):(mf c fs).lookup ("counts":Str)=some (.ref c):=rfl
theorem Wm {C:Cs} {w:Wo} {t:Sw} {H:Hp} {p c:Addr} {m:Str} (hm:isF m=false) {sh:Sh} {fs:List (Str×V)} (h:Sub C w t H p sh fs):(mf c fs).lookup m=none:=by
 refine QS hm λq hq=>?_
 rcases Ν.mp hq with rfl | hq
 ·exact .head _
 have e:fs.map (·.1)∈([["low","span"],["signs"],["parts","table"],["marks","parts"],["part"],["part","times"],["named"]]:List (List Str)):=by
  cases sh with
  | w lo span=>rw [show fs=_ from h];exact .head _
  | t sg=>rw [show fs=_ from h.1];exact .tail _ (.head _)
  | row ps=>obtain ⟨P,T,dt,L,as,ws,rfl,_⟩:=h;exact .tail _ (.tail _ (.head _))
  | pick mk ps=>obtain ⟨M,P,as,rfl,_⟩:=h;exact .tail _ (.tail _ (.tail _ (.head _)))
  | many q=>obtain ⟨a,rfl,_⟩:=h;exact .tail _ (.tail _ (.tail _ (.tail _ (.head _))))
  | alike q n=>obtain ⟨⟨a,rfl,_⟩,_⟩:=h;exact .tail _ (.tail _ (.tail _ (.tail _ (.tail _ (.head _)))))
  | use x=>obtain ⟨a,rfl,_⟩:=h;exact .tail _ (.tail _ (.tail _ (.tail _ (.tail _ (.tail _ (.head _))))))
 have all:∀ l∈([["low","span"],["signs"],["parts","table"],["marks","parts"],["part"],["part","times"],["named"]]:List (List Str)),∀ x∈l,x∈fns:=by decide +kernel
 exact all _ e _ (bX hq)
def fu (w:Wo) (s d:Nat):Nat:=5*(s*(w.M+1)+d)
theorem Vv {w:Wo} {s d s' d':Nat} (hd:d'<=w.M) (h:s'<s\/(s'=s/\d'<d)):fu w s' d'+5<=fu w s d:=by
 unfold fu;rcases h with h | ⟨rfl,h⟩
 ·have:=dA (w.M+1) (show s'+1<=s from h)
  rw [Nat.add_mul] at this
  omega
 ·omega
inductive ZO (C:Cs) (k l:Nat) (vs:List V) (H:Hp) (Q:VK) (E_:XK):Prop
 | mk (w:Wo) (t:Sw) (p:Addr) (sh:Sh) (s:Nat) (h0:vs=[.ref p,.int s]) (h1:kind sh=k) (h2:WI C w t H) (h3:w.reg p=some sh) (h4:1<=l) (h5:s<=40) (h6:(s<t.ns p->Q (.int (cnt w.bk sh s)) H)) (h7:(t.ns p<=s->fu w s (dep sh)+5<=l/\Xo w t s (dep sh+1)/\∀ t' H',Tr C w t H t' H' s (dep sh+1)->t'.ns p=s+1->Q (.int (cnt w.bk sh s)) H'))
def Bg (C:Cs) (t:Sw) (H:Hp) (p:Addr) (sh:Sh) (n:Nat):Prop:=∀ dx c fs as,H p=some (.ins (Ug C sh) dx (mf c fs))->vA H sh fs as->∀ a∈as,pf sh n<=t.ns a
inductive aQ (C:Cs) (k l:Nat) (vs:List V) (H:Hp) (Q:VK) (E_:XK):Prop
 | mk (w:Wo) (t:Sw) (p:Addr) (sh:Sh) (s:Nat) (h0:vs=[.ref p,.int s]) (h1:kind sh=k) (h2:WI C w t H) (h3:w.reg p=some sh) (h4:t.ns p=s) (h5:s<=40) (h6:fu w s (dep sh)+4<=l) (h7:Xo w t s (dep sh+1)) (h8:∀ t' H',Tr C w t H t' H' s (dep sh+1)->t'.ns p=s->(∀ ps,sh = .row ps->∀ i,s+1<=t'.ms p i)->Bg C t' H' p sh (s+1)->Q (.int (cnt w.bk sh s)) H')
theorem ZA {C:Cs} {k:Nat} {vs:List V} {H:Hp} {Q:VK} {E:XK} (h:ZO C k 0 vs H Q E):False:=by
 obtain ⟨w,t,p,sh,s,_,_,_,_,h,_⟩:=h;omega
theorem Wz {C:Cs} {k:Nat} {vs:List V} {H:Hp} {Q:VK} {E:XK} (h:aQ C k 0 vs H Q E):False:=by
 obtain ⟨w,t,p,sh,s,_,_,_,_,_,_,h,_⟩:=h;omega
theorem Tr.own {C:Cs} {w:Wo} {t t':Sw} {H H':Hp} {s d:Nat} (T:Tr C w t H t' H' s d) {p:Addr} {sh:Sh} (hr:w.reg p=some sh) (hd:d<=dep sh) (hs:s<=t.ns p):t'.ns p=t.ns p/\t'.ms p=t.ms p:=by
 have g:=T.gr p sh hr;have e:bnd s d sh=s:=if_neg (by omega);rw [e] at g
 have h1:=g.up;have h2:=g.le;exact ⟨by omega,g.no hs⟩
theorem Tr.count {C:Cs} {w:Wo} {t t':Sw} {H H':Hp} {s j:Nat} {sh:Sh} {p c:Addr} (T:Tr C w t H t' H' s (dep sh+1)) (hr:w.reg p=some sh) (hc:w.D c=some (p,0)) (hj:t'.ns p=j) (hjs:j<=s) (hs:s<=40) (gq:∀ ps,sh = .row ps->∀ i,j+1<=t'.ms p i) (hpt:Bg C t' H' p sh (j+1)):Tr C w t H (t'.bT p (j+1)) (upd H' c (.lst (Xh (cnt w.bk sh) (j+1)))) s (dep sh+1):=by
 subst hj;refine ⟨T.wi.count hr hc (by omega) gq hpt,λb o e h=>?_,λq sh' hq=>?_,T.u1,T.u2⟩
 ·rw [Ye λz=>by rw [z,hc] at e;cases e]
  exact T.fr b o e h
 ·have g:=T.gr q sh' hq
  by_cases e:q=p
  ·subst e
   rw [hr] at hq
   have:=Δ hq;subst this;have eb:bnd s (dep sh+1) sh=s+1:=if_pos (by omega);rw [eb] at g ⊢
   have h1:=g.up;have en:(t'.bT q (t'.ns q+1)).ns q=t'.ns q+1:=if_pos rfl;exact ⟨by rw [en];omega,by rw [en];omega,λh=>by omega,g.un⟩
  ·have en:(t'.bT p (t'.ns p+1)).ns q=t'.ns q:=if_neg e
   exact ⟨by rw [en];exact g.up,by rw [en];exact g.le,g.no,g.un⟩
variable {m:Nat}
theorem Ey {w:Wo} {s d s':Nat} (h:s'<=s):fu w s' d<=fu w s d:=by
 unfold fu;have:=dA (w.M+1) h;omega
theorem XY {k:Nat} {Z0:Addr} {CS:Cs} {kx:Nat} (hC0:∀ sh,kind sh=kx->Ug CS sh=Z0) (R:g.aD Z0 "count_at" "Maker.count_at" vm ["self","size"]) (Bh:g.Me k Z0 "reckoned" ["self","size"] (aQ CS kx m)) (ao:g.mg "len"=none) (Z8:Cls g.K Z0) (Zh:Yg g.K Z0 "counts"):g.Me (k+1) Z0 "count_at" ["self","size"] (ZO CS kx (m+1)):=by
 refine R.me Z3D (λvs H Q E h=>by obtain ⟨w,t,p,sh,sz,rfl,hk,W,hg,hl,hs,q1,q2⟩:=h;rfl) λf_ cdv A outer s H vs Q E hr h=>?_
 obtain ⟨w,t,p,sh,sz,rfl,hk,W,hg,hl,hs,q1,q2⟩:=h;refine ⟨_,(Yf (W6 ar (Yq xM (YU ao YM (Ya (Yx (pv 0) rfl) Yd)) (pv 1) (Ys _)) (Yi (Y9 (VF dQ fh fg XJ (Yx (pv 0) rfl) (Ya (Xz Bh Z8 hr (pv 0) (Ya (YU ao YM (Ya (Yx (pv 0) rfl) Yd)) Yd)) Yd))))) (Yi (Yn (Yr YQ (Yx (pv 0) rfl) (pv 1))))),?_⟩;walk_at "rd";have hC:=hC0 sh hk;by_cases cs:sz<t.ns p
 ·obtain ⟨dx,c,fs,hU,hd,hsm,hns,hp,bV,hc,hsub⟩:=W.at_ p sh hg
  rw [hC] at hp
  refine X6 (α:=Unit) (λx σ H'=>σ=[some (.ref p),some (.int sz)]/\H=H') (λx=>false) (λx=>0) () ⟨rfl,rfl⟩ ?_ ?_ ?_
  ·rintro x σ H' ⟨rfl,rfl⟩ R r
   walk_at "rd";refine ⟨_,_,_,hp,Z8,Zh,_,Wb _ _,_,rfl,_,.inl (au.of hc),?_⟩;rw [Xv,dle,decide_eq_false (by omega)];exact r H ⟨rfl,rfl⟩
  ·rintro x σ H' ⟨rfl,rfl⟩ hd
   cases hd
  ·rintro x σ H' ⟨rfl,rfl⟩ hd
   walk_at "rd";exact ⟨_,_,_,hp,Z8,Zh,_,Wb _ _,_,rfl,_,au.of hc,_,UA _ cs,q1 cs⟩
 ·obtain ⟨hfu,hRd,q⟩:=q2 (by omega)
  refine X6 (α:=Sw) (λx σ H'=>σ=[some (.ref p),some (.int sz)]/\Tr CS w t H x H' sz (dep sh+1)/\x.ns p<=sz+1) (λx=>decide (x.ns p<=sz)) (λx=>sz+1 - x.ns p) t ⟨rfl,.refl W _ _,by omega⟩ ?_ ?_ ?_
  ·rintro x σ H' ⟨rfl,T,hx⟩ R r
   obtain ⟨dx,c,fs,hU,hd,hsm,hns,hp,bV,hc,hsub⟩:=T.wi.at_ p sh hg;rw [hC] at hp
   walk_at "rd";refine ⟨_,_,_,hp,Z8,Zh,_,Wb _ _,_,rfl,_,.inl (au.of hc),?_⟩;rw [Xv,dle];exact r H' ⟨rfl,T,hx⟩
  ·rintro x σ H' ⟨rfl,T,hx⟩ hd
   have hd:x.ns p<=sz:=of_decide_eq_true hd;obtain ⟨dx,c,fs,hU,hd',hsm,hns,hp,bV,hc,hsub⟩:=T.wi.at_ p sh hg;rw [hC] at hp
   walk_at "rd";refine ⟨_,_,_,hp,Z8,Zh,_,Wb _ _,.inl ⟨rfl,_,au.of hc⟩,_,_,hp,Wm (by decide +kernel) hsub,_,_,_,hp,Z8,Zh,_,Wb _ _,_,rfl,_,.inl (au.of hc),?_⟩;rw [Xv];have hfl:=Ey (w:=w) (d:=dep sh) hd;have hrd:Xo w x (x.ns p) (dep sh+1):=(T.ready hRd).mono (by omega);refine ⟨w,x,p,sh,x.ns p,rfl,hk,T.wi,hg,rfl,by omega,by omega,hrd,λt2 H2 T2 e2 gq hpt=>?_⟩;have T3:=T.trans (T2.mono (by omega));obtain ⟨JV,c2,fs2,vB,hd2,ag0,ag1,hp2,Bj,hc2,hsub2⟩:=T2.wi.at_ p sh hg;have ec:=T2.wi.inj _ _ _ Bj bV;subst ec;rw [e2] at hc2
   have T4:=T3.count hg Bj e2 hd hs gq hpt;refine ⟨_,rfl,_,hc2,by rw [Xv];exact few (by omega),t2.bT p (x.ns p+1),?_,?_,?_⟩
   ·rw [<- Vj];exact T4
   ·show (if p=p then _ else _)<=_
    rw [if_pos rfl];omega
   ·show sz+1 - (if p=p then _ else _)<_
    rw [if_pos rfl];omega
  ·rintro x σ H' ⟨rfl,T,hx⟩ hd
   have hd:¬ x.ns p<=sz:=of_decide_eq_false hd;obtain ⟨dx,c,fs,hU,hd',hsm,hns,hp,bV,hc,hsub⟩:=T.wi.at_ p sh hg;rw [hC] at hp
   walk_at "rd";exact ⟨_,_,_,hp,Z8,Zh,_,Wb _ _,_,rfl,_,au.of hc,_,UA _ (by omega),q x H' T (by omega)⟩
theorem JW {k:Nat} {Z1 Z3 Z2 Z5 Z6 Z4 Z7 Z0:Addr} (R:g.aD Z0 "count_at" "Maker.count_at" vm ["self","size"]) (Bh:g.Me k Z0 "reckoned" ["self","size"] (aQ (Cs.mk Z0 Z4 Z5 Z6 Z2 Z3 Z1 Z7) 0 m)) (ao:g.mg "len"=none) (Z8:Cls g.K Z0) (Zh:Yg g.K Z0 "counts") (ZD:Yg g.K Z0 "low") (Zy:Yg g.K Z0 "span"):g.Me (k+1) Z0 "count_at" ["self","size"] (ZO (Cs.mk Z0 Z4 Z5 Z6 Z2 Z3 Z1 Z7) 0 (m+1)):=XY (λsh hk=>by cases sh<;>(first|rfl|cases hk)) R Bh ao Z8 Zh
theorem JX {k:Nat} {Z1 Z3 Z2 Z5 Z6 Z4 Z7 Z0:Addr} (R:g.aD Z4 "count_at" "Maker.count_at" Jv ["self","size"]) (Z4k:g.Me k Z4 "reckoned" ["self","size"] (aQ (Cs.mk Z0 Z4 Z5 Z6 Z2 Z3 Z1 Z7) 1 m)) (ao:g.mg "len"=none) (Zd:Cls g.K Z4) (Zz:Yg g.K Z4 "counts") (Zr:Yg g.K Z4 "signs"):g.Me (k+1) Z4 "count_at" ["self","size"] (ZO (Cs.mk Z0 Z4 Z5 Z6 Z2 Z3 Z1 Z7) 1 (m+1)):=XY (λsh hk=>by cases sh<;>(first|rfl|cases hk)) R Z4k ao Zd Zz
theorem JZ {k:Nat} {Z1 Z3 Z2 Z5 Z6 Z4 Z7 Z0:Addr} (R:g.aD Z5 "count_at" "Maker.count_at" Jw ["self","size"]) (Z4S:g.Me k Z5 "reckoned" ["self","size"] (aQ (Cs.mk Z0 Z4 Z5 Z6 Z2 Z3 Z1 Z7) 2 m)) (ao:g.mg "len"=none) (Zf:Cls g.K Z5) (ZC:Yg g.K Z5 "counts") (ZE:Yg g.K Z5 "parts") (ZB:Yg g.K Z5 "table"):g.Me (k+1) Z5 "count_at" ["self","size"] (ZO (Cs.mk Z0 Z4 Z5 Z6 Z2 Z3 Z1 Z7) 2 (m+1)):=XY (λsh hk=>by cases sh<;>(first|rfl|cases hk)) R Z4S ao Zf ZC
theorem J0 {k:Nat} {Z1 Z3 Z2 Z5 Z6 Z4 Z7 Z0:Addr} (R:g.aD Z2 "count_at" "Maker.count_at" Jx ["self","size"]) (Z4l:g.Me k Z2 "reckoned" ["self","size"] (aQ (Cs.mk Z0 Z4 Z5 Z6 Z2 Z3 Z1 Z7) 3 m)) (ao:g.mg "len"=none) (Zb:Cls g.K Z2) (Zp:Yg g.K Z2 "counts") (Zs:Yg g.K Z2 "marks") (Zm:Yg g.K Z2 "parts"):g.Me (k+1) Z2 "count_at" ["self","size"] (ZO (Cs.mk Z0 Z4 Z5 Z6 Z2 Z3 Z1 Z7) 3 (m+1)):=XY (λsh hk=>by cases sh<;>(first|rfl|cases hk)) R Z4l ao Zb Zp
theorem J1 {k:Nat} {Z1 Z3 Z2 Z5 Z6 Z4 Z7 Z0:Addr} (R:g.aD Z3 "count_at" "Maker.count_at" Jy ["self","size"]) (Z4m:g.Me k Z3 "reckoned" ["self","size"] (aQ (Cs.mk Z0 Z4 Z5 Z6 Z2 Z3 Z1 Z7) 4 m)) (ao:g.mg "len"=none) (Zc:Cls g.K Z3) (Zq:Yg g.K Z3 "counts") (Zt:Yg g.K Z3 "part"):g.Me (k+1) Z3 "count_at" ["self","size"] (ZO (Cs.mk Z0 Z4 Z5 Z6 Z2 Z3 Z1 Z7) 4 (m+1)):=XY (λsh hk=>by cases sh<;>(first|rfl|cases hk)) R Z4m ao Zc Zq
theorem J2 {k:Nat} {Z1 Z3 Z2 Z5 Z6 Z4 Z7 Z0:Addr} (R:g.aD Z7 "count_at" "Maker.count_at" JB ["self","size"]) (Z4T:g.Me k Z7 "reckoned" ["self","size"] (aQ (Cs.mk Z0 Z4 Z5 Z6 Z2 Z3 Z1 Z7) 5 m)) (ao:g.mg "len"=none) (Ze:Cls g.K Z7) (Zv:Yg g.K Z7 "counts") (Zn:Yg g.K Z7 "named"):g.Me (k+1) Z7 "count_at" ["self","size"] (ZO (Cs.mk Z0 Z4 Z5 Z6 Z2 Z3 Z1 Z7) 5 (m+1)):=XY (λsh hk=>by cases sh<;>(first|rfl|cases hk)) R Z4T ao Ze Zv
theorem J3 {k:Nat} {Z1 Z3 Z2 Z5 Z6 Z4 Z7 Z0:Addr} (R:g.aD Z1 "count_at" "Maker.count_at" Jz ["self","size"]) (Z3S:g.Me k Z1 "reckoned" ["self","size"] (aQ (Cs.mk Z0 Z4 Z5 Z6 Z2 Z3 Z1 Z7) 6 m)) (ao:g.mg "len"=none) (Za:Cls g.K Z1) (Zw:Yg g.K Z1 "counts") (Zx:Yg g.K Z1 "part") (Zk:Yg g.K Z1 "times"):g.Me (k+1) Z1 "count_at" ["self","size"] (ZO (Cs.mk Z0 Z4 Z5 Z6 Z2 Z3 Z1 Z7) 6 (m+1)):=XY (λsh hk=>by cases sh<;>(first|rfl|cases hk)) R Z3S ao Za Zw
inductive oO (vs:List V) (H:Hp) (Q:VK) (E_:XK):Prop
 | mk (n:Nat) (h0:vs=[.int n]) (h1:n<=100) (h2:Q (.int (1*2^n / 2^1)) H)
theorem Z5n  (R:g.Raw "least_distance" "least_distance" zp ["size"]):g.Fn (1) "least_distance" ["size"] (oO):=by
 refine R.fn Z5k (λvs H Q E h=>by obtain ⟨n,rfl,hn,q⟩:=h;rfl) λf_ cdv A outer s H vs Q E hr h=>?_
 obtain ⟨n,rfl,hn,q⟩:=h;refine ⟨_,(Yi (Yn (Ym TF (Ym Gg Yh (pv 0)) Yh))),?_⟩;walk_at "rd";exact ⟨⟨by omega,by omega,by decide⟩,by decide,q⟩
theorem J4 {k:Nat} {Z1 Z3 Z2 Z5 Z6 Z4 Z7 Z0:Addr} (R:g.aD Z0 "reckoned" "WholeMaker.reckoned" zX ["self","size"]) (Bk:g.Fn k "least_distance" ["size"] (oO)) (cI:g.mg "max"=none) (eG:g.mg "min"=none) (Z8:Cls g.K Z0) (Zh:Yg g.K Z0 "counts") (ZD:Yg g.K Z0 "low") (Zy:Yg g.K Z0 "span"):g.Me (k+1) Z0 "reckoned" ["self","size"] (aQ (Cs.mk Z0 Z4 Z5 Z6 Z2 Z3 Z1 Z7) 0 (m+1)):=by
 refine R.me Jr (λvs H Q E h=>by obtain ⟨w,t,p,sh,sz,rfl,hk,W,hg,hn,hs,hf,hR,q⟩:=h;rfl) λf_ cdv A outer s H vs Q E hr h=>?_
 obtain ⟨w,t,p,sh,sz,rfl,hk,W,hg,hn,hs,hf,hR,q⟩:=h;refine ⟨_,(Yf (Yp (i:=2) Jr.nd rfl (.inl rfl) (YU eG (Q7 rfl) (Ya (Yx (pv 0) rfl) (Ya (Ym Y3 (Ym Gg Yh (pv 1)) Yh) Yd)))) (Yi (Yn (YU cI (Q6 rfl) (Ya Yh (Ya (Ym YZ (Ym Y3 (pv 2) (YA Bk hr (Ya (pv 1) Yd))) Yh) Yd)))))),?_⟩
 cases sh with
 | w lo span =>
  obtain ⟨dx,c,fs,hU,hd,hsm,hns,hp,bV,hc,hsub⟩:=W.at_ p _ hg;have hsub:fs=fW lo span:=hsub;subst hsub;walk_at "rd";have:=q t H (.refl W _ _) hn (λps z=>by cases z) (λdx c fs as _ h a ha=>by rw [show as=[] from h] at ha;cases ha);rw [JH] at this
  exact ⟨_,_,_,hp,Z8,Zy,_,rfl,⟨by omega,by omega,by decide⟩,_,rfl,sz,rfl,by omega,_,rfl,this⟩
 | _=>cases hk
theorem J5 {k:Nat} {Z1 Z3 Z2 Z5 Z6 Z4 Z7 Z0:Addr} (R:g.aD Z4 "reckoned" "TextMaker.reckoned" z6 ["self","size"]) (Z4n:g.Me k Z4 "count_at" ["self","size"] (ZO (Cs.mk Z0 Z4 Z5 Z6 Z2 Z3 Z1 Z7) 1 m)) (ao:g.mg "len"=none) (Zd:Cls g.K Z4) (Zz:Yg g.K Z4 "counts") (Zr:Yg g.K Z4 "signs"):g.Me (k+1) Z4 "reckoned" ["self","size"] (aQ (Cs.mk Z0 Z4 Z5 Z6 Z2 Z3 Z1 Z7) 1 (m+1)):=by
 refine R.me Z3N (λvs H Q E h=>by obtain ⟨w,t,p,sh,sz,rfl,hk,W,hg,hn,hs,hf,hR,q⟩:=h;rfl) λf_ cdv A outer s H vs Q E hr h=>?_
 obtain ⟨w,t,p,sh,sz,rfl,hk,W,hg,hn,hs,hf,hR,q⟩:=h;refine ⟨_,(Yi (Yn (VC (Yq YL (pv 1) Yh (Ys _)) Yh (Ym XG (YU ao W9 (Ya (Yx (pv 0) rfl) Yd)) (Xz Z4n Zd hr (pv 0) (Ya (Ym Y3 (pv 1) Yh) Yd)))))),?_⟩
 cases sh with
 | t sg =>
  obtain ⟨dx,c,fs,hU,hd,hsm,hns,hp,bV,hc,hsub⟩:=W.at_ p _ hg;obtain ⟨e,hl⟩:=id hsub;subst e;have q:=q t H (.refl W _ _) hn (λps z=>by cases z) (λdx c fs as _ h a ha=>by rw [show as=[] from h] at ha;cases ha);walk_at "rd";refine Xy (λc=>?_) (λc=>?_)
  ·have e:sz=0:=by omega
   subst e;rw [Yhv] at q
   exact q
  ·obtain ⟨j,rfl⟩:∃ j,sz=j+1:=⟨sz - 1,by omega⟩
   rw [Yhw] at q
   obtain ⟨n,hn1,hn2⟩:=hsm j (by omega);rw [show ((j+1:Nat):Int) - 1=(j:Int) by omega];refine ⟨_,_,_,hp,Zd,Zr,_,rfl,S sg,rfl,?_,_,_,hp,Wm (by decide +kernel) hsub,w,t,p,.t sg,j,rfl,rfl,W,hg,by omega,by omega,λ_=>⟨_,rfl,?_,?_⟩,λh=>absurd h (by omega)⟩
   ·rw [Xx];exact few (by omega)
   ·rw [Xx];exact .inl (cm (m:=7) (by omega) hn2 (by omega))
   ·rw [Xx];exact q
 | _=>cases hk
def Blk (H:Hp) (D:Addr) (ps:List (Int×Int)):Prop:=∃ xs:List V,H D=some (.lst xs)/\xs.length=ps.length/\∀ (i:Nat) x p,xs[i]?=some x->ps[i]?=some p->∃ T,x = .ref T/\H T=some (.tup [.int p.1,.int p.2])
inductive vC (K:Θ) (vs:List V) (H:Hp) (Q:VK) (E_:XK):Prop
 | mk (D:Addr) (ps:List (Int×Int)) (h0:vs=[.ref D]) (h1:Blk H D ps) (h2:ps.length<=1000) (h3:(∀ p∈ps,sm p.1/\sm p.2)) (h4:∀ H',Yk H H'->Q (.int (ps.map λp=>p.1*p.2).sum) H')
section
variable {src:List (Option Nat)} {te:TE} {σ:St} {H:Hp} {Q:VK}
theorem Yer {K:Θ} {tl:TE} {b:Addr} {xs:List V} (ps:List (V×V)) (ys:List V) (ha:∀ R:V->Hp->Prop,R (.ref b) H->tl σ H R) (hS:au K H b xs) (hp:∀ (i:Nat) x p,xs[i]?=some x->ps[i]?=some p->∃ T,x = .ref T/\H T=some (.tup [p.1,p.2])) (hl:ps.length=xs.length) (hl2:ys.length=xs.length) (hlen:xs.length<=100000)
  (step:∀ (i:Nat) p y H',ps[i]?=some p->ys[i]?=some y->Yk H H'->∀ R:VK,(∀ aG,Yk H' aG->R y aG)->te (some p.1::some p.2::Yy src σ) H' R)
  (fin:∀ D H',H D=none->Yk H H'->H' D=some (.lst ys)->Q (.ref D) H'):cW (none::none::src) (Wf K tl) (Vn K 2 (XD (Yv 0) (XD (Yv 1) VD))) XF te σ H Q:=by
 refine ha _ ⟨b,rfl,⟨xs,hS⟩,λD hD=>?_⟩;have h6:100000<sizeLine:=by decide
 refine WR (XO.imp λH' (e:Yk H H')=>e.seq hS) (λi zs σ' H'=>zs=ys.take i/\(∃ o o',σ'=o::o'::Yy src σ)/\Yk H H'/\H' D=some (.lst zs)) ⟨by simp,⟨none,none,rfl⟩,.aj hD _,Yb⟩ (λi zs σ' H' p=>⟨p.2.2.1,p.2.2.2⟩) (UJ K 0 1) ?_ ?_
 ·rintro i zs σ' H' x hx ⟨rfl,⟨o,o',rfl⟩,sm,hd⟩
  have hi:=(Η.mp hx).1;have hy:ys[i]?=some (ys[i]'(by omega)):=Ε _;have hpi:ps[i]?=some (ps[i]'(by omega)):=Ε _;obtain ⟨T,rfl,hT⟩:=hp i x _ hx hpi;refine ⟨T,_,rfl,aJ.of (sm _ _ hT),rfl,_,_,rfl,_,_,rfl,rfl,?_⟩;refine step i _ _ H' hpi hy sm _ λaG s2=>⟨s2 _ _ hd,?_,(YT hy).symm,⟨_,_,rfl⟩,.cu hD (sm.trans s2) _,Yb⟩
  rw [aw];omega
 ·rintro zs σ' H' ⟨rfl,_,sm,hd⟩
  rw [<- hl2,bz] at hd
  exact fin D H' hD sm hd
end
theorem Ydi  (R:g.Raw "ways_of" "ways_of" zj ["blocks"]) (jq:g.mg "sum"=none):g.Fn (1) "ways_of" ["blocks"] (vC g.K):=by
 refine R.fn Ydg (λvs H Q E h=>by obtain ⟨D,ps,rfl,⟨xs,hD,gJ,hxp⟩,hl,hb,q⟩:=h;rfl) λf_ cdv A outer s H vs Q E hr h=>?_
 obtain ⟨D,ps,rfl,⟨xs,hD,gJ,hxp⟩,hl,hb,q⟩:=h;refine ⟨_,(Yi (Yn (YU jq Yaq (Ya (Xn (src:=[none,none]) (N':=(["choices","rest"]:List Str)) (g:=Vn g.K 2 (XD (Yv 0) (XD (Yv 1) VD))) (.own (.own .nil)) rfl (Xl (pv 0)) (λcl C s₀ H₀ fp pn=>(V0 (n:=2) rfl (XB (Yu (i:=0) (show ay (["choices","rest"]:List Str) by decide +kernel) rfl (.inl rfl) (.inr rfl)) (XB (Yu (i:=1) (show ay (["choices","rest"]:List Str) by decide +kernel) rfl (.inl rfl) (.inr rfl)) Vq)))) (λcl C s₀ H₀ fp pn=>Y5) (λcl C s₀ H₀ fp pn=>(Ym XG (pv 0) (pv 1))) (by intro x hx;simp at hx)) Yd)))),?_⟩;walk_at "rd";refine Yer (K:=g.K) (b:=D) (xs:=xs) (ps.map λp=>(V.int p.1,V.int p.2)) (ps.map λp=>V.int (p.1*p.2)) (λR r=>by walk_at "rd";exact r) (au.of hD) ?_ (by rw [Β];omega) (by rw [Β];omega) (by omega) ?_ ?_
 ·intro i x p hx hp
  rw [Λ] at hp
  obtain ⟨p',hp',rfl⟩:=ε.mp hp;exact hxp i x p' hx hp'
 ·intro i p y H' hp hy sm R r
  rw [Λ] at hp hy
  obtain ⟨p',hp',rfl⟩:=ε.mp hp;rw [hp'] at hy
  have:V.int (p'.1*p'.2)=y:=Δ hy;subst this;obtain ⟨⟨n1,b0,b1⟩,⟨n2,b2,b3⟩⟩:=hb p' (Ξ hp');walk_at "rd";exact ⟨.inl (cm b1 b3 (by omega)),r H' (.refl _)⟩
 ·intro D' H' hD' sm hd
  refine ⟨D',rfl,ps.map λp=>p.1*p.2,au.of (by rw [hd,bo];rfl),q H' sm⟩
def Tb (C:Cs) (H:Hp) (p T:Addr):Prop:=∃ dx c P,H p=some (.ins C.row dx (mf c (fR P T)))
inductive fV (C:Cs) (l:Nat) (vs:List V) (H:Hp) (Q:VK) (E_:XK):Prop
 | mk (w:Wo) (t:Sw) (p T:Addr) (ps:List Sh) (pl left:Nat) (h0:vs=[.ref T,.int pl,.int left]) (h1:WI C w t H) (h2:w.reg p=some (.row ps)) (h3:Tb C H p T) (h4:pl<=ps.length) (h5:left<=40) (h6:1<=l) (h7:(left<t.ms p ps.length->left<t.ms p pl/\Q (.int (YY w.bk (ps.drop pl) left)) H)) (h8:(t.ms p ps.length<=left->gR t p/\left<=t.ns p/\fu w left (YH ps+1)+3<=l/\Xo w t left (YH ps+1)/\∀ t' H',Tr C w t H t' H' left (YH ps+2)->t'.ns p=t.ns p->gR t' p->left<t'.ms p 0->Q (.int (YY w.bk (ps.drop pl) left)) H'))
inductive jr (C:Cs) (l:Nat) (vs:List V) (H:Hp) (Q:VK) (E_:XK):Prop
 | mk (w:Wo) (t:Sw) (p T:Addr) (ps:List Sh) (sz:Nat) (h0:vs=[.ref T,.int sz]) (h1:WI C w t H) (h2:w.reg p=some (.row ps)) (h3:Tb C H p T) (h4:(∀ i,t.ms p i=sz)) (h5:sz<=40) (h6:sz<=t.ns p) (h7:fu w sz (YH ps+1)+2<=l) (h8:Xo w t sz (YH ps+1)) (h9:∀ t' H',Tr C w t H t' H' sz (YH ps+2)->t'.ns p=t.ns p->(∀ i,t'.ms p i=sz+1)->Q .non H')
inductive qy (C:Cs) (l:Nat) (vs:List V) (H:Hp) (Q:VK) (E_:XK):Prop
 | mk (w:Wo) (t:Sw) (p T:Addr) (ps:List Sh) (pl left:Nat) (sh:Sh) (h0:vs=[.ref T,.int pl,.int left]) (h1:WI C w t H) (h2:w.reg p=some (.row ps)) (h3:Tb C H p T) (h4:ps[pl]?=some sh) (h5:left<=40) (h6:left<=t.ns p) (h7:(∀ i,pl<i->left<t.ms p i)) (h8:fu w left (YH ps+1)+1<=l) (h9:Xo w t left (YH ps+1)) (h10:∀ D t' H',Tr C w t H t' H' left (YH ps+1)->H D=none->¬ t'.U D->Blk H' D ((ζ (left+1)).map λf=>(cnt w.bk sh f,YY w.bk (ps.drop (pl+1)) (left - f)))->(∀ a,UB C H p pl a->left<t'.ns a)->Q (.ref D) H')
theorem J6 {C:Cs} {vs:List V} {H:Hp} {Q:VK} {E:XK} (h:fV C 0 vs H Q E):False:=by
 obtain ⟨w,t,p,T,ps,pl,left,_,_,_,_,_,_,h,_⟩:=h;omega
theorem Yhy {C:Cs} {vs:List V} {H:Hp} {Q:VK} {E:XK} (h:jr C 0 vs H Q E):False:=by
 obtain ⟨w,t,p,T,ps,sz,_,_,_,_,_,_,_,h,_⟩:=h;omega
theorem Ydj {C:Cs} {vs:List V} {H:Hp} {Q:VK} {E:XK} (h:qy C 0 vs H Q E):False:=by
 obtain ⟨w,t,p,T,ps,pl,left,sh,_,_,_,_,_,_,_,_,h,_⟩:=h;omega
theorem VU {as bs:List Addr} (h:as.map V.ref=bs.map V.ref):as=bs:=by
 induction as generalizing bs with
 | nil=>cases bs with
  | nil=>rfl
  | cons b bs=>simp at h
 | cons a as ih=>cases bs with
  | nil=>simp at h
  | cons b bs =>
   rw [χ,χ] at h
   injection h with h1 h2
   rw [V.ref.inj h1,ih h2]
theorem QT {c c' P P' T T':Addr} (h:mf c (fR P T)=mf c' (fR P' T')):P=P'/\T=T':=by
 unfold mf fR at h
 injection h with _ h
 injection h with h1 h
 injection h with h2 _
 injection h1 with _ h1
 injection h2 with _ h2
 exact ⟨V.ref.inj h1,V.ref.inj h2⟩
theorem Yes {C:Cs} {w:Wo} {t:Sw} {H H':Hp} {p a:Addr} {i:Nat} {ps:List Sh} (W:WI C w t H) (hg:w.reg p=some (.row ps)) (fr:Fr w H H') (h:UB C H' p i a):UB C H p i a:=by
 obtain ⟨dx,c,fs,hU,hd,hsm,hns,hp,bV,hc,hsub⟩:=W.at_ p _ hg;obtain ⟨P,T',dt,L,as,ws,rfl,h2,h3,h4,h5,h6,_⟩:=hsub;obtain ⟨bW,c',P',T'',bs,e1,e2,e3⟩:=h;rw [fr _ _ hU.1 hp] at e1
 have e:=Δ e1
 injection e with _ _ e
 obtain ⟨rfl,_⟩:=QT e;rw [fr _ _ h2.1 h5] at e2
 have e:=Δ e2
 injection e with e
 cases VU e
 exact ⟨dx,c,P,T',as,hp,h5,e3⟩
theorem J7 {C:Cs} {w:Wo} {t:Sw} {H:Hp} {p T P dt L a:Addr} {i:Nat} {as:List Addr} {ps:List Sh} (W:WI C w t H) (hg:w.reg p=some (.row ps)) (hTb:Tb C H p T) (hT:H T=some (.ins C.tab dt (Wy P L))) (hP:H P=some (.lst (as.map V.ref))) (h:UB C H p i a):as[i]?=some a:=by
 obtain ⟨dx,c,fs,hU,hd,hsm,hns,hp,bV,hc,hsub⟩:=W.at_ p _ hg;obtain ⟨P1,T1,dt1,L1,as1,ws,rfl,h2,h3,h4,h5,h6,h7,h8,_⟩:=hsub;obtain ⟨JV,c2,P2,hp2⟩:=hTb;rw [hp] at hp2
 have e:=Δ hp2
 injection e with _ _ e
 obtain ⟨_,rfl⟩:=QT e;rw [h8] at hT
 have e:=Δ hT
 injection e with _ _ e
 unfold Wy at e
 injection e with e _
 injection e with _ e
 cases V.ref.inj e
 obtain ⟨bW,c',P',T'',bs,e1,e2,e3⟩:=h;rw [hp] at e1
 have e:=Δ e1
 injection e with _ _ e
 obtain ⟨rfl,_⟩:=QT e;rw [hP] at e2
 have e:=Δ e2
 injection e with e
 cases VU e
 exact e3
theorem Vw {C:Cs} {w:Wo} {t:Sw} {H:Hp} {p T:Addr} {ps:List Sh} (W:WI C w t H) (hg:w.reg p=some (.row ps)) (hT:Tb C H p T):∃ (P dt L:Addr) (as ws:List Addr),w.D T=none/\w.D P=none/\w.D L=none/\H P=some (.lst (as.map V.ref))/\gn w t p as ps/\ps.length<=100 /\
   H T=some (.ins C.tab dt (Wy P L))/\H L=some (.lst (ws.map V.ref))/\ws.length=ps.length+1 /\
   (∀ (i:Nat) x,ws[i]?=some x->w.D x=some (p,i+1)/\t.ns p<=t.ms p i/\t.ms p i<=60/\H x=some (.lst (Xh (YY w.bk (ps.drop i)) (t.ms p i))))/\(∀ i s,s<=45->sm (YY w.bk (ps.drop i) s))/\dep (.row ps)<=w.M:=by
 obtain ⟨dx,c,fs,hU,hd,hsm,hns,hp,bV,hc,hsub⟩:=W.at_ p _ hg;obtain ⟨P,T',dt,L,as,ws,rfl,h2,h3,h4,h5,h6,h7,h8,h9,h10,h11,h12⟩:=hsub;obtain ⟨bW,c',P',hp'⟩:=hT;rw [hp] at hp'
 have e:=Δ hp'
 injection e with e1 e2 e3
 unfold mf fR at e3
 injection e3 with e4 e5
 injection e5 with e6 e7
 injection e7 with e8 e9
 injection e8 with _ e8
 have:=V.ref.inj e8;subst this;exact ⟨P,dt,L,as,ws,h3.1,h2.1,h4.1,h5,h6,h7,h8,h9,h10,h11,h12,hd⟩
theorem Tr.tb {C:Cs} {w:Wo} {t t':Sw} {H H':Hp} {s d:Nat} (T:Tr C w t H t' H' s d) {p x:Addr} {sh:Sh} (W:WI C w t H) (hg:w.reg p=some sh) (h:Tb C H p x):Tb C H' p x:=by
 obtain ⟨dx,c,P,h⟩:=h;obtain ⟨_,_,_,hU,_⟩:=W.at_ p _ hg;exact ⟨dx,c,P,T.fr _ _ hU.1 h⟩
abbrev Vo (C:Cs) (l:Nat):List (Addr×Sp):=[(C.w,ZO C 0 l),(C.t,ZO C 1 l),(C.row,ZO C 2 l),(C.pick,ZO C 3 l),(C.many,ZO C 4 l),(C.alike,ZO C 6 l),(C.use,ZO C 5 l)]
theorem Yfk (C:Cs) (l:Nat) (sh:Sh):(Ug C sh,ZO C (kind sh) l)∈Vo C l:=by
 cases sh with
 | w lo span=>exact .head _
 | t sg=>exact .tail _ (.head _)
 | row ps=>exact .tail _ (.tail _ (.head _))
 | pick mk ps=>exact .tail _ (.tail _ (.tail _ (.head _)))
 | many q=>exact .tail _ (.tail _ (.tail _ (.tail _ (.head _))))
 | alike q n=>exact .tail _ (.tail _ (.tail _ (.tail _ (.tail _ (.head _)))))
 | use x=>exact .tail _ (.tail _ (.tail _ (.tail _ (.tail _ (.tail _ (.head _))))))
theorem WA {C:Cs} {w:Wo} {t:Sw} {H:Hp} {a:Addr} {sh:Sh} {l sz:Nat} {Q:VK} (W:WI C w t H) (hg:w.reg a=some sh) (hs:sz<=40) (hf:fu w sz (dep sh)+5<=l) (hR:Xo w t sz (dep sh+1))
  (q:∀ t' H',Tr C w t H t' H' sz (dep sh+1)->sz<t'.ns a->Q (.int (cnt w.bk sh sz)) H'):iU (Vo C l) H a "count_at" λsp=>sp [.ref a,.int sz] H Q E0:=by
 obtain ⟨dx,c,fs,hU,hd,hsm,hns,hp,bV,hc,hsub⟩:=W.at_ a sh hg;exact ⟨_,_,Yfk C l sh,dx,_,hp,Wm (by decide +kernel) hsub,w,t,a,sh,sz,rfl,rfl,W,hg,by omega,hs,λh=>q t H (.refl W _ _) h,λ_=>⟨hf,hR,λt' H' T e=>q t' H' T (by omega)⟩⟩
theorem J8 {k:Nat} {Z1 Z3 Z2 Z5 Z6 Z4 Z7 Z0:Addr} (R:g.aD Z6 "blocks_at" "RowTable.blocks_at" Ac ["self","place","left"]) (Bl:g.Me k Z6 "ways_at" ["self","place","left"] (fV (Cs.mk Z0 Z4 Z5 Z6 Z2 Z3 Z1 Z7) m)) (aU:g.dR k "count_at" ["self","size"] (Vo (Cs.mk Z0 Z4 Z5 Z6 Z2 Z3 Z1 Z7) (m))) (Zg:g.mg "range"=none) (Zj:Cls g.K Z6) (Zo:Yg g.K Z6 "parts") (Zi:Yg g.K Z6 "ways"):g.Me (k+1) Z6 "blocks_at" ["self","place","left"] (qy (Cs.mk Z0 Z4 Z5 Z6 Z2 Z3 Z1 Z7) (m+1)):=by
 refine R.me Jt (λvs H Q E h=>by obtain ⟨w,t,p,T,ps,pl,left,sh,rfl,W,hg,hT,hsh,hl,lE,hms,hf,hR,q⟩:=h;rfl) λf_ cdv A outer s H vs Q E hr h=>?_
 obtain ⟨w,t,p,T,ps,pl,left,sh,rfl,W,hg,hT,hsh,hl,lE,hms,hf,hR,q⟩:=h;refine ⟨_,(Yf (Yp (i:=3) Jt.nd rfl (.inr rfl) (Yr YQ (Yx (pv 0) rfl) (pv 1))) (Yi (Yn (Xn (src:=[none,some 3,some 0,some 1,some 2]) (N':=(["first","part","self","place","left"]:List Str)) (g:=Yv 0) (.own (.cap (i:=3) rfl rfl (by first | exact .inl rfl | exact .inr rfl) (.cap (i:=0) rfl rfl (by first | exact .inl rfl | exact .inr rfl) (.cap (i:=1) rfl rfl (by first | exact .inl rfl | exact .inr rfl) (.cap (i:=2) rfl rfl (by first | exact .inl rfl | exact .inr rfl) .nil))))) rfl (Y2 rfl Zg (Ya (Ym YZ (pv 2) Yh) Yd)) (λcl C s₀ H₀ fp pn=>(Yu (i:=0) (show ay (["first","part","self","place","left"]:List Str) by decide +kernel) rfl (.inl rfl) (.inr rfl))) (λcl C s₀ H₀ fp pn=>Y5) (λcl C s₀ H₀ fp pn=>(Xb (Ya (XH aU hr (pv 1) (Ya (pv 0) Yd)) (Ya (Xz Bl Zj hr (pv 2) (Ya (Ym YZ (pv 3) Yh) (Ya (Ym Y3 (pv 4) (pv 0)) Yd))) Yd)))))))),?_⟩;walk_at "rd";obtain ⟨P,dt,L,as,ws,dT,dP,dL,hP,hra,hpl,hTT,fH,hwl,hws,hsm,hdp⟩:=Vw W hg hT;have hpi:=(Η.mp hsh).1;have hal:=hra.1;have hai:as[pl]?=some (as[pl]'(by omega)):=Ε _;generalize as[pl]'(by omega)=a at hai;have hga:=hra.2 pl a sh hai hsh;have hds:dep sh<=YH ps:=X9 (Ξ hsh);have hdr:dep (.row ps)=YH ps+1:=by rw [dep]
 refine ⟨_,_,_,hTT,Zj,Zo,_,rfl,P,rfl,_,au.of hP,.ref a,Yo (by rw [Λ,hai];rfl),?_⟩;refine WU (n:=left+1) (λD i zs H'=>∃ t',Tr (Cs.mk Z0 Z4 Z5 Z6 Z2 Z3 Z1 Z7) w t H t' H' left (YH ps+1)/\i<=t'.ns a/\zs.length=i/\H' D=some (.lst zs)/\¬ t'.U D/\∀ (j:Nat) x,zs[j]?=some x->∃ T,x = .ref T/\w.D T=none/\¬ t'.U T/\T≠D/\H' T=some (.tup [.int (cnt w.bk sh j),.int (YY w.bk (ps.drop (pl+1)) (left - j))])) (λR r=>by walk_at "rd";exact r) (by omega) ?_ ?_ ?_ ?_
 ·intro D hD
  exact ⟨t,(Tr.refl W _ _).put hD (W.new hD).2 _,ν _,rfl,Yb,(W.new hD).2,λj x hx=>by simp at hx⟩
 ·rintro D i zs H' ⟨t',_,_,h1,h2,_⟩
  exact ⟨h1,h2⟩
 ·rintro D i zs H' hD hi ⟨t',T1,hna,hz,hd,cX,hts⟩ R r
  have fm:fu w i (dep sh)+5<=fu w left (YH ps+1):=Vv (by omega) (by omega);have dD:w.D D=none:=(W.new hD).1;walk_at "rd";refine WA T1.wi hga (by omega) (by omega) ((T1.ready hR).mono (by omega)) λt2 H2 T2 hn2=>?_
  have iI:=T1.trans (T2.mono (by omega));have own:=iI.own hg (by omega) lE;have hd2:=T2.fr _ _ dD hd;have gW:=T2.ours cX hd;refine ⟨_,_,iI.fr _ _ dT hTT,rfl,w,t2,p,T,ps,pl+1,left - i,by rw [show (left:Int) - (i:Int)=((left - i:Nat):Int) by omega];rfl,T2.wi,hg,iI.tb W hg hT,by omega,by omega,by omega,λ_=>⟨?_,few (by decide),λX gX=>?_⟩,λh=>?_⟩
  ·rw [own.2]
   have:=hms (pl+1) (by omega);omega
  ·have gK:X≠D:=ai (Yl hd2 gX)
   have sX:=Yk.aj gX (.tup [.int (cnt w.bk sh i),.int (YY w.bk (ps.drop (pl+1)) (left - i))]);refine r _ _ (sX _ _ hd2) ⟨t2,(iI.same sX).put hD gW _,hn2,by rw [Μ,hz];rfl,Yb,gW,λj x hx=>?_⟩;by_cases c:j<zs.length
   ·rw [av c] at hx
    obtain ⟨Y,rfl,y1,y2,y3,y4⟩:=hts j x hx;exact ⟨Y,rfl,y1,T2.ours y2 y4,y3,by rw [Ye y3];exact sX _ _ (T2.fr _ _ y1 y4)⟩
   ·have hj:j=zs.length:=by
     have:=(Η.mp hx).1;rw [Μ,aE] at this
     omega
    subst hj;rw [ax (Κ _),gc] at hx
    have:V.ref X=x:=Δ hx;subst this;exact ⟨X,rfl,(T2.wi.new gX).1,(T2.wi.new gX).2,gK,by rw [Ye gK,Yb,hz]⟩
  ·have:=hms ps.length (by omega)
   rw [own.2] at h
   omega
 ·rintro D zs H' hD ⟨t',T1,hna,hz,hd,cX,hts⟩
  refine q D t' H' T1 hD cX ⟨zs,hd,by rw [hz,Β,a4],λj x y hx hy=>?_⟩ λa' ha'=>?_
  rotate_left
  ·have:=J7 W hg hT hTT hP ha'
   rw [hai] at this
   cases Δ this
   exact hna
  obtain ⟨X,rfl,_,_,_,hX⟩:=hts j x hx;have hj:=(Η.mp hx).1;rw [Λ,aS (by omega)] at hy
  have:=Δ hy;subst this;exact ⟨X,rfl,hX⟩
theorem J9 {xs:List V} {n:Nat} {x:V} (hl:xs.length=n+1) (h:xs[n]?=some x):dZ xs (-1)=some x:=by
 have e:xs=xs.take n++[x]:=by rw [<- YT h,am (by omega)]
 rw [e];exact YeV _ _
theorem XL (P L:Addr):(Wy P L).lookup ("ways":Str)=some (.ref L):=by
 unfold Wy;rw [Υ,show (("ways":Str)==("parts":Str))=false by decide +kernel,Υ,show (("ways":Str)==("ways":Str))=true by decide +kernel]
theorem QU (P L:Addr) {m:Str} (hm:isF m=false):(Wy P L).lookup m=none:=QS hm λq hq=>(show ∀ x∈(["parts","ways"]:List Str),x∈fns by decide +kernel) _ (bX (f:=(·.1)) hq)
theorem Ydk {g:TG} {tb:TS} {D:Ends} {σ:St} {H:Hp} {ta:TA} {n:Nat} (Pv:Nat->St->Hp->Prop) (ha:∀ R:List V->Hp->Prop,R [.int ((n:Int) - 1),.int (-1),.int (-1)] H->ta σ H R) (hn:n<2^62) (h0:Pv 0 σ H)
  (hs:∀ i σ H,i<n->Pv i σ H->g (.int ((n - 1 - i:Nat):Int)) σ H λσ2 H2=>tb { D with nx:=Pv (i+1),ct:=Pv (i+1),bk:=D.nx } σ2 H2) (hd:∀ σ H,Pv n σ H->D.nx σ H):UL (Hy ta) g tb D σ H:=by
 refine ha _ ⟨(n:Int) - 1,-1,rfl,⟨by omega,by omega,by omega,by omega⟩,?_⟩;have e:((n:Int) - 1 - (-1)).toNat=n:=by omega
 rw [e];refine ⟨λi m σ H=>m=n - i/\i<=n/\Pv i σ H,⟨n,by simp,ν _,h0⟩,?_⟩;rintro i m σ H ⟨rfl,hi,p⟩;by_cases hlt:i<n
 ·refine .inr ⟨hlt,Pv (i+1),λσ' H' p'=>⟨n - (i+1),by omega,rfl,hlt,p'⟩,λx H' y=>?_⟩
  obtain ⟨e,y⟩:=y;subst e y;have:=hs i σ _ hlt p;have e2:((n - 1 - i:Nat):Int)=(n:Int) - 1 - i:=by omega
  rw [e2] at this
  exact this
 ·have e:i=n:=by omega
  subst e;exact .inl ⟨Κ _,hd σ H p⟩
theorem Ka {k:Nat} {Z1 Z3 Z2 Z5 Z6 Z4 Z7 Z0:Addr} (R:g.aD Z6 "add_size" "RowTable.add_size" Aa ["self","size"]) (qz:g.Fn k "ways_of" ["blocks"] (vC g.K)) (Bo:g.Me k Z6 "blocks_at" ["self","place","left"] (qy (Cs.mk Z0 Z4 Z5 Z6 Z2 Z3 Z1 Z7) m)) (ao:g.mg "len"=none) (Zg:g.mg "range"=none) (Zj:Cls g.K Z6) (Zo:Yg g.K Z6 "parts") (Zi:Yg g.K Z6 "ways"):g.Me (k+1) Z6 "add_size" ["self","size"] (jr (Cs.mk Z0 Z4 Z5 Z6 Z2 Z3 Z1 Z7) (m+1)):=by
 refine R.me Js (λvs H Q E h=>by obtain ⟨w,t,p,T,ps,sz,rfl,W,hg,hT,hms,hs,hsn,hf,hR,q⟩:=h;rfl) λf_ cdv A outer s H vs Q E hr h=>?_
 obtain ⟨w,t,p,T,ps,sz,rfl,W,hg,hT,hms,hs,hsn,hf,hR,q⟩:=h;refine ⟨_,(Yf (Y9 (VF dQ fh fg XJ (Yr YQ (Yx (pv 0) rfl) (Ur Vs Yh)) (Ya (VC (Yq YL (pv 1) Yh (Ys _)) Yh Yh) Yd))) (Yi (Xt ar rfl (Yd4 rfl Zg (Ya (Ym Y3 (YU ao YM (Ya (Yx (pv 0) rfl) Yd)) Yh) (Ya (Ur Vs Yh) (Ya (Ur Vs Yh) Yd))) (by rfl) (by rfl)) (Yu (i:=2) Js.nd rfl (.inl rfl)) (Yi (Y9 (VF dQ fh fg XJ (Yr YQ (Yx (pv 0) rfl) (pv 2)) (Ya (YA qz hr (Ya (Xz Bo Zj hr (pv 0) (Ya (pv 2) (Ya (pv 1) Yd))) Yd)) Yd))))))),?_⟩;obtain ⟨P,dt,L,as,ws,dT,dP,dL,hP,hra,hpl,hTT,fH,hwl,hws,hsm,hdp⟩:=Vw W hg hT;have hwk:ws[ps.length]?=some (ws[ps.length]'(by omega)):=Ε _;generalize ws[ps.length]'(by omega)=y at hwk;obtain ⟨lq,hny,RN,hy⟩:=hws ps.length y hwk;have hnn:t.ns p=sz:=by have:=hms ps.length;omega
 rw [hms] at hy
 have e0:YY w.bk (ps.drop ps.length) sz=if sz=0 then 1 else 0:=by rw [List.drop_length,JK]
 have hdr:dep (.row ps)=YH ps+1:=by rw [dep]
 have hbr:bnd sz (YH ps+1) (.row ps)<=t.ns p:=by rw [bnd,if_neg (by omega)];omega
 refine Rw (λσ H'=>σ=[some (.ref T),some (.int sz),none]/\H'=upd H y (.lst (Xh (YY w.bk (ps.drop ps.length)) (sz+1)))) ?_ (λN hN=>?_)
 rotate_left
 ·walk_at "rd"
  refine ⟨_,_,_,hTT,Zj,Zi,_,XL _ _,L,rfl,_,au.of fH,.ref y,J9 (n:=ps.length) (by rw [Β,hwl]) (by rw [Λ,hwk];rfl),.inl ⟨rfl,_,au.of hy⟩,Xy (λc=>?_) (λc=>?_)⟩
  ·refine ⟨y,rfl,_,hy,by rw [Xv];exact few (by omega),hN _ _ ⟨rfl,?_⟩⟩
   rw [Vj,e0,if_pos (by omega)]
  ·refine ⟨y,rfl,_,hy,by rw [Xv];exact few (by omega),hN _ _ ⟨rfl,?_⟩⟩
   rw [Vj,e0,if_neg (by omega)]
 rintro σ H1 ⟨rfl,rfl⟩;have T0:dU (Cs.mk Z0 Z4 Z5 Z6 Z2 Z3 Z1 Z7) w t H t H sz (YH ps+2) p:=(Tr.refl W _ _).b rfl;have T1:=T0.way hg lq (hms _) (by omega) (λj h1 h2=>by omega) (λa ha=>by
  have h1:=(Η.mp (J7 W hg hT hTT hP ha)).1;have h2:=hra.1;omega)
 walk_at "rd";refine Ydk (n:=ps.length) (λi σ H'=>∃ (t':Sw) (o:Option V),σ=[some (.ref T),some (.int sz),o]/\dU (Cs.mk Z0 Z4 Z5 Z6 Z2 Z3 Z1 Z7) w t H t' H' sz (YH ps+2) p/\(∀ j,ps.length - i<=j->t'.ms p j=sz+1)/\∀ j,j<ps.length - i->t'.ms p j=sz) (λR r=>?_) (by omega) ⟨_,none,rfl,T1,λj hj=>if_pos ⟨rfl,hj⟩,λj hj=>(if_neg (λz=>by omega)).trans (hms j)⟩ ?_ ?_
 ·walk_at "rd"
  refine ⟨_,_,_,T1.fr _ _ dT hTT,Zj,Zo,_,rfl,P,rfl,_,.inl (au.of (T1.fr _ _ dP hP)),?_⟩;rw [Β,hra.1];exact r
 ·rintro i σ H' hi ⟨t',o,rfl,T2,hge,hlt⟩
  obtain ⟨pl,RP⟩:∃ pl,pl=ps.length - 1 - i:=⟨_,rfl⟩;rw [<- RP];have hsh:ps[pl]?=some (ps[pl]'(by omega)):=Ε _;generalize ps[pl]'(by omega)=sh at hsh;have hwp:ws[pl]?=some (ws[pl]'(by omega)):=Ε _;generalize ws[pl]'(by omega)=yy at hwp;obtain ⟨uc,_,_,_⟩:=hws pl yy hwp;have hT':Tb (Cs.mk Z0 Z4 Z5 Z6 Z2 Z3 Z1 Z7) H' p T:=by
   obtain ⟨dx,c,P',h⟩:=hT;obtain ⟨_,_,_,hU,_⟩:=W.at_ p _ hg;exact ⟨dx,c,P',T2.fr _ _ hU.1 h⟩
  obtain ⟨P2,dt2,L2,as2,lF,_,_,_,_,_,_,_,_,ud,oR,_,_⟩:=Vw T2.wi hg hT';have RQ:lF[pl]?=some (lF[pl]'(by omega)):=Ε _;obtain ⟨hD2,_,_,hy2⟩:=oR pl _ RQ;rw [T2.wi.inj _ _ _ hD2 uc] at hy2
  walk_at "rd";refine ⟨_,_,_,T2.fr _ _ dT hTT,Zj,Zi,_,XL _ _,L,rfl,_,au.of (T2.fr _ _ dL fH),.ref yy,Yo (by rw [Λ,hwp];rfl),.inl ⟨rfl,_,au.of hy2⟩,_,_,T2.fr _ _ dT hTT,QU _ _ (by decide +kernel),?_⟩;refine ⟨w,t',p,T,ps,pl,sz,sh,rfl,T2.wi,hg,hT',hsh,hs,by rw [T2.own];exact hsn,λj hj=>by rw [hge j (by omega)];omega,by omega,T2.ready hg hbr hR,λD t3 H3 T3 gD cX hB hpc=>?_⟩;have own:=T3.own hg (by omega) (by rw [T2.own];exact hsn);have hlen:((ζ (sz+1)).map λf=>(cnt w.bk sh f,YY w.bk (ps.drop (pl+1)) (sz - f))).length=sz+1:=by simp
  refine ⟨D,_,rfl,hB,by rw [hlen];omega,λx hx=>?_,λH4 s4=>?_⟩
  ·obtain ⟨f,hf',rfl⟩:=ac.mp hx
   have hf':=bb.mp hf';have hga:∃ a,w.reg a=some sh:=by
    have hai:as[pl]?=some (as[pl]'(by have:=hra.1;omega)):=Ε _;exact ⟨_,hra.2 pl _ sh hai hsh⟩
   obtain ⟨a,hga⟩:=hga;obtain ⟨_,_,_,_,_,lG,_⟩:=W.at_ a sh hga;exact ⟨lG f (by omega),hsm _ _ (by omega)⟩
  have T4:=(T2.trans ((T3.mono (by omega)).b own.1)).same s4;have T5:=T4.way (i:=pl) hg uc (by rw [own.2];exact hlt pl (by omega)) (by omega) (λj h1 h2=>by rw [own.2];exact hge j (by omega)) (λa ha=>hpc a (Yes T2.wi hg (λb o e h=>s4 _ _ (T3.fr b o e h)) ha));obtain ⟨P4,dt4,L4,as4,Kc,_,_,_,_,_,_,_,_,ag2,RT,_,_⟩:=Vw T3.wi hg (T3.tb T2.wi hg hT');have RW:Kc[pl]?=some (Kc[pl]'(by omega)):=Ε _;obtain ⟨hD4,_,_,vD⟩:=RT pl _ RW;rw [T3.wi.inj _ _ _ hD4 uc,own.2,hlt pl (by omega)] at vD
  have vD:=s4 _ _ vD;refine ⟨yy,rfl,_,vD,by rw [Xv];exact few (by omega),t3.iV p pl (sz+1),?_,λj hj=>?_,λj hj=>?_⟩
  ·have esum:(((ζ (sz+1)).map λf=>(cnt w.bk sh f,YY w.bk (ps.drop (pl+1)) (sz - f))).map λp=>p.1*p.2).sum=YY w.bk (ps.drop pl) sz:=by
    rw [List.drop_eq_getElem_cons (by omega:pl<ps.length),JL,bo];have:ps[pl]'(by omega)=sh:=by
     have:=Ε (l:=ps) (i:=pl) (by omega);rw [this] at hsh
     exact Δ hsh
    rw [this];rfl
   rw [esum,<- Vj];exact T5
  ·show (if p=p/\pl<=j then _ else _)=_
   rw [if_pos ⟨rfl,by omega⟩]
  ·show (if p=p/\pl<=j then _ else _)=_
   rw [if_neg (by omega),own.2];exact hlt j (by omega)
 ·rintro σ H' ⟨t',o,rfl,T2,hge,hlt⟩
  walk_at "rd";have hall:∀ i,t'.ms p i=sz+1:=λi=>hge i (by omega)
  exact q t' H' (T2.to hg (by omega) (by omega) (λi=>by rw [hall,hall])) T2.own hall
theorem Kd {k:Nat} {Z1 Z3 Z2 Z5 Z6 Z4 Z7 Z0:Addr} (R:g.aD Z6 "ways_at" "RowTable.ways_at" z9 ["self","place","left"]) (Z4U:g.Me k Z6 "add_size" ["self","size"] (jr (Cs.mk Z0 Z4 Z5 Z6 Z2 Z3 Z1 Z7) m)) (ao:g.mg "len"=none) (Zj:Cls g.K Z6) (Zo:Yg g.K Z6 "parts") (Zi:Yg g.K Z6 "ways"):g.Me (k+1) Z6 "ways_at" ["self","place","left"] (fV (Cs.mk Z0 Z4 Z5 Z6 Z2 Z3 Z1 Z7) (m+1)):=by
 refine R.me Z4R (λvs H Q E h=>by obtain ⟨w,t,p,T,ps,pl,left,rfl,W,hg,hT,hpl,hl,hm1,q1,q2⟩:=h;rfl) λf_ cdv A outer s H vs Q E hr h=>?_
 obtain ⟨w,t,p,T,ps,pl,left,rfl,W,hg,hT,hpl,hl,hm1,q1,q2⟩:=h;refine ⟨_,(Yf (W6 ar (Yq xM (YU ao YM (Ya (Yr YQ (Yx (pv 0) rfl) (Ur Vs Yh)) Yd)) (pv 2) (Ys _)) (Yi (Y9 (Xz Z4U Zj hr (pv 0) (Ya (YU ao YM (Ya (Yr YQ (Yx (pv 0) rfl) (Ur Vs Yh)) Yd)) Yd))))) (Yi (Yn (Yr YQ (Yr YQ (Yx (pv 0) rfl) (pv 1)) (pv 2))))),?_⟩;obtain ⟨P,dt,L,as,ws,dT,dP,dL,hP,hra,hpl',hTT,fH,hwl,hws,hsm,hdp⟩:=Vw W hg hT;have hwk:ws[ps.length]?=some (ws[ps.length]'(by omega)):=Ε _;generalize ws[ps.length]'(by omega)=y at hwk;obtain ⟨lq,hny,RN,hy⟩:=hws ps.length y hwk;have hwp:ws[pl]?=some (ws[pl]'(by omega)):=Ε _;generalize ws[pl]'(by omega)=yp at hwp;obtain ⟨hDp,hnp,hmp,hyp⟩:=hws pl yp hwp;have oU:dZ (ws.map V.ref) (-1)=some (.ref y):=J9 (n:=ps.length) (by rw [Β,hwl]) (by rw [Λ,hwk];rfl);have hmp':dZ (ws.map V.ref) (pl:Int)=some (.ref yp):=Yo (by rw [Λ,hwp];rfl);walk_at "rd";by_cases cs:left<t.ms p ps.length
 ·refine X6 (α:=Unit) (λx σ H'=>σ=[some (.ref T),some (.int pl),some (.int left)]/\H=H') (λx=>false) (λx=>0) () ⟨rfl,rfl⟩ ?_ ?_ ?_
  ·rintro x σ H' ⟨rfl,rfl⟩ R r
   walk_at "rd";refine ⟨_,_,_,hTT,Zj,Zi,_,XL _ _,L,rfl,_,au.of fH,_,oU,y,rfl,_,.inl (au.of hy),?_⟩;rw [Xv,dle,decide_eq_false (by omega)];exact r H ⟨rfl,rfl⟩
  ·rintro x σ H' ⟨rfl,rfl⟩ hd
   cases hd
  ·rintro x σ H' ⟨rfl,rfl⟩ hd
   walk_at "rd";exact ⟨_,_,_,hTT,Zj,Zi,_,XL _ _,L,rfl,_,au.of fH,_,hmp',yp,rfl,_,au.of hyp,_,UA _ (q1 cs).1,(q1 cs).2⟩
 ·obtain ⟨hU,lE,hf,hR,q⟩:=q2 (by omega)
  have hms:∀ i,t.ms p i=left:=λi=>by have:=hU i;have:=hU ps.length;omega
  have T0:∀ (x:Sw) (H':Hp),Tr (Cs.mk Z0 Z4 Z5 Z6 Z2 Z3 Z1 Z7) w t H x H' left (YH ps+2)->(∀ i,x.ms p i=left+1)->H' y=some (.lst (Xh (YY w.bk (ps.drop ps.length)) (left+1)))/\H' yp=some (.lst (Xh (YY w.bk (ps.drop pl)) (left+1))):=λx H' T1 hx=>by
   obtain ⟨P2,dt2,L2,as2,lF,_,_,_,_,_,_,_,_,ud,oR,_,_⟩:=Vw T1.wi hg (T1.tb W hg hT);have h1:lF[ps.length]?=some (lF[ps.length]'(by omega)):=Ε _;have h2:lF[pl]?=some (lF[pl]'(by omega)):=Ε _;obtain ⟨k1,_,_,k4⟩:=oR _ _ h1;obtain ⟨j1,_,_,j4⟩:=oR _ _ h2;rw [T1.wi.inj _ _ _ k1 lq,hx] at k4
   rw [T1.wi.inj _ _ _ j1 hDp,hx] at j4
   exact ⟨k4,j4⟩
  rw [hms] at hy
  refine X6 (α:=Bool×Sw) (λx σ H'=>σ=[some (.ref T),some (.int pl),some (.int left)]/\(x.1=false->x.2=t/\H'=H)/\(x.1=true->Tr (Cs.mk Z0 Z4 Z5 Z6 Z2 Z3 Z1 Z7) w t H x.2 H' left (YH ps+2)/\x.2.ns p=t.ns p/\∀ i,x.2.ms p i=left+1)) (λx => !x.1) (λx=>if x.1 then 0 else 1) (false,t) ⟨rfl,λ_=>⟨rfl,rfl⟩,λz=>by cases z⟩ ?_ ?_ ?_
  ·rintro ⟨b,x⟩ σ H' ⟨rfl,h1,h2⟩ R r
   have rr:=r H' ⟨rfl,h1,h2⟩;walk_at "rd"
   cases b with
   | false =>
    obtain ⟨rfl,rfl⟩:=h1 rfl;refine ⟨_,_,_,hTT,Zj,Zi,_,XL _ _,L,rfl,_,au.of fH,_,oU,y,rfl,_,.inl (au.of hy),?_⟩;rw [Xv,dle,decide_eq_true (by omega)];exact rr
   | true =>
    obtain ⟨T1,_,hx⟩:=h2 rfl;refine ⟨_,_,_,T1.fr _ _ dT hTT,Zj,Zi,_,XL _ _,L,rfl,_,au.of (T1.fr _ _ dL fH),_,oU,y,rfl,_,.inl (au.of (T0 x H' T1 hx).1),?_⟩;rw [Xv,dle,decide_eq_false (by omega)];exact rr
  ·rintro ⟨b,x⟩ σ H' ⟨rfl,h1,h2⟩ hd
   cases b with
   | true=>cases hd
   | false =>
    obtain ⟨rfl,rfl⟩:=h1 rfl;walk_at "rd";refine ⟨_,_,hTT,QU _ _ (by decide +kernel),_,_,_,hTT,Zj,Zi,_,XL _ _,L,rfl,_,au.of fH,_,oU,y,rfl,_,.inl (au.of hy),?_⟩;rw [Xv];exact ⟨w,x,p,T,ps,left,rfl,W,hg,hT,hms,hl,lE,by omega,hR,λt' H' T1 hn hx=>⟨(true,t'),(λz=>by cases z),λ_=>⟨T1,hn,hx⟩,Nat.zero_lt_one⟩⟩
  ·rintro ⟨b,x⟩ σ H' ⟨rfl,h1,h2⟩ hd
   cases b with
   | false=>cases hd
   | true =>
    obtain ⟨T1,hn,hx⟩:=h2 rfl;walk_at "rd";exact ⟨_,_,_,T1.fr _ _ dT hTT,Zj,Zi,_,XL _ _,L,rfl,_,au.of (T1.fr _ _ dL fH),_,hmp',yp,rfl,_,au.of (T0 x H' T1 hx).2,_,UA _ (by omega),q x H' T1 hn (λi=>by rw [hx,hx]) (by rw [hx];omega)⟩
theorem Ke (c P T:Addr):(mf c (fR P T)).lookup ("table":Str)=some (.ref T):=by
 unfold mf fR;rw [Υ,show (("table":Str)==("counts":Str))=false by decide +kernel,Υ,show (("table":Str)==("parts":Str))=false by decide +kernel,Υ,show (("table":Str)==("table":Str))=true by decide +kernel]
theorem Kf {k:Nat} {Z1 Z3 Z2 Z5 Z6 Z4 Z7 Z0:Addr} (R:g.aD Z5 "reckoned" "RowMaker.reckoned" Ae ["self","size"]) (Bl:g.Me k Z6 "ways_at" ["self","place","left"] (fV (Cs.mk Z0 Z4 Z5 Z6 Z2 Z3 Z1 Z7) m)) (Zf:Cls g.K Z5) (ZC:Yg g.K Z5 "counts") (ZE:Yg g.K Z5 "parts") (ZB:Yg g.K Z5 "table") (Zj:Cls g.K Z6) (Zo:Yg g.K Z6 "parts") (Zi:Yg g.K Z6 "ways"):g.Me (k+1) Z5 "reckoned" ["self","size"] (aQ (Cs.mk Z0 Z4 Z5 Z6 Z2 Z3 Z1 Z7) 2 (m+1)):=by
 refine R.me Z4g (λvs H Q E h=>by obtain ⟨w,t,p,sh,sz,rfl,hk,W,hg,hn,hs,hf,hR,q⟩:=h;rfl) λf_ cdv A outer s H vs Q E hr h=>?_
 obtain ⟨w,t,p,sh,sz,rfl,hk,W,hg,hn,hs,hf,hR,q⟩:=h;refine ⟨_,(Yi (Yn (Xz Bl Zj hr (Yx (pv 0) rfl) (Ya Yh (Ya (pv 1) Yd))))),?_⟩
 cases sh with
 | row ps =>
  obtain ⟨dx,c,fs,hU,hd,hsm,hns,hp,bV,hc,hsub⟩:=W.at_ p _ hg;obtain ⟨P,T,dt,L,as,ws,rfl,h2,h3,h4,h5,h6,h7,h8,h9,h10,h11,h12⟩:=hsub;have hT:Tb (Cs.mk Z0 Z4 Z5 Z6 Z2 Z3 Z1 Z7) H p T:=⟨dx,c,P,hp⟩;have hdr:dep (.row ps)=YH ps+1:=by rw [dep]
  rw [hdr] at hf hR
  have oV:gR t p:=hR p _ hg (by rw [hn,bnd,if_pos (by omega)];omega);have hwk:ws[ps.length]?=some (ws[ps.length]'(by omega)):=Ε _;obtain ⟨_,hnk,_,_⟩:=h11 _ _ hwk;have hw0:ws[0]?=some (ws[0]'(by omega)):=Ε _;obtain ⟨_,hn0,_,_⟩:=h11 _ _ hw0;walk_at "rd";refine ⟨_,_,_,hp,Zf,ZB,_,Ke _ _ _,T,rfl,_,_,h8,QU _ _ (by decide +kernel),w,t,p,T,ps,0,sz,rfl,W,hg,hT,by omega,hs,by omega,λh=>⟨by rw [<- oV ps.length];exact h,?_⟩,λh=>⟨oV,by omega,by omega,hR.mono (by omega),λt' H' T1 hn' hU' hl'=>?_⟩⟩
  ·have:=q t H (.refl W _ _) hn λps' z i=>by
    have:=Sh.row.inj z;subst this;rw [oV i,<- oV ps.length];omega
   rw [QR] at this
   exact this λdx c fs as _ h a ha=>by rw [show as=[] from h] at ha;cases ha
  ·have gq:∀ i,sz+1<=t'.ms p i:=λi=>by
    rw [hU' i];exact hl'
   have:=q t' H' (by rw [hdr];exact T1) (by omega) λps' z i=>gq i
   rw [QR] at this
   exact this λdx c fs as _ h a ha=>by rw [show as=[] from h] at ha;cases ha
 | _=>cases hk
def Kg (C:Cs) (H:Hp) (p a:Addr):Prop:=∃ dx c M P,∃ as:List Addr,H p=some (.ins C.pick dx (mf c (fP M P)))/\H P=some (.lst (as.map V.ref))/\a∈as
theorem Kh {c c' P P' T T':Addr} (h:mf c (fP P T)=mf c' (fP P' T')):P=P'/\T=T':=by
 unfold mf fP at h
 injection h with _ h
 injection h with h1 h
 injection h with h2 _
 injection h1 with _ h1
 injection h2 with _ h2
 exact ⟨V.ref.inj h1,V.ref.inj h2⟩
theorem Yfl {C:Cs} {H:Hp} {p dx c M P a:Addr} {as:List Addr} (hp:H p=some (.ins C.pick dx (mf c (fP M P)))) (hP:H P=some (.lst (as.map V.ref))) (h:Kg C H p a):a∈as:=by
 obtain ⟨bW,c',M',P',bs,e1,e2,e3⟩:=h;rw [hp] at e1
 have e:=Δ e1
 injection e with _ _ e
 obtain ⟨_,rfl⟩:=Kh e;rw [hP] at e2
 have e:=Δ e2
 injection e with e
 cases VU e
 exact e3
inductive qC (C:Cs) (l:Nat) (vs:List V) (H:Hp) (Q:VK) (E_:XK):Prop
 | mk (w:Wo) (t:Sw) (p:Addr) (mk:List (List Nat)) (ps:List Sh) (sz:Nat) (h0:vs=[.ref p,.int sz]) (h1:WI C w t H) (h2:w.reg p=some (.pick mk ps)) (h3:sz<=40) (h4:sz<=t.ns p) (h5:fu w sz (YH ps+1)+3<=l) (h6:Xo w t sz (YH ps+1)) (h7:∀ D t' H',Tr C w t H t' H' sz (YH ps+1)->H D=none->¬ t'.U D->Blk H' D (ps.map λsh=>(cnt w.bk sh sz,1))->(∀ a,Kg C H p a->sz<t'.ns a)->Q (.ref D) H')
theorem Ydl {C:Cs} {vs:List V} {H:Hp} {Q:VK} {E:XK} (h:qC C 0 vs H Q E):False:=by
 obtain ⟨w,t,p,mk,ps,sz,_,_,_,_,_,h,_⟩:=h;omega
theorem Kl (c M P:Addr):(mf c (fP M P)).lookup ("parts":Str)=some (.ref P):=by
 unfold mf fP;rw [Υ,show (("parts":Str)==("counts":Str))=false by decide +kernel,Υ,show (("parts":Str)==("marks":Str))=false by decide +kernel,Υ,show (("parts":Str)==("parts":Str))=true by decide +kernel]
theorem Km (c:Addr) (a:V):(mf c (fU a)).lookup ("named":Str)=some a:=by
 unfold mf fU;rw [Υ,show (("named":Str)==("counts":Str))=false by decide +kernel,Υ,show (("named":Str)==("named":Str))=true by decide +kernel]
theorem Ko {c c':Addr} {fs fs':List (Str×V)} (h:mf c fs=mf c' fs'):fs=fs':=by
 unfold mf at h
 injection h
theorem UC {x y:Str×V} {l l':List (Str×V)} (h:x::l=y::l'):x.2=y.2:=by
 injection h with h _
 rw [h]
theorem QV {C:Cs} {t:Sw} {H:Hp} {p dx c a:Addr} {sh:Sh} {n:Nat} {fs:List (Str×V)} (h1:H p=some (.ins (Ug C sh) dx (mf c fs))) (hf:vA H sh fs [a]) (hk:4<=kind sh) (h2:pf sh n<=t.ns a):Bg C t H p sh n:=λbW c' fs' as e h b hb=>by
 rw [h1] at e
 have e:=Δ e
 injection e with _ _ e
 cases Ko e
 suffices ee:as=[a] by
  rw [ee] at hb
  cases Φ.mp hb
  exact h2
 cases sh with
 | many q =>
  obtain ⟨a1,e1,e2⟩:=hf;obtain ⟨a2,e3,e4⟩:=h
  cases List.singleton_inj.mp e2
  rw [e1] at e3
  cases V.ref.inj (UC e3)
  exact e4
 | alike q k =>
  obtain ⟨a1,e1,e2⟩:=hf;obtain ⟨a2,e3,e4⟩:=h
  cases List.singleton_inj.mp e2
  rw [e1] at e3
  cases V.ref.inj (UC e3)
  exact e4
 | use x =>
  obtain ⟨a1,e1,e2⟩:=hf;obtain ⟨a2,e3,e4⟩:=h
  cases List.singleton_inj.mp e2
  rw [e1] at e3
  cases V.ref.inj (UC e3)
  exact e4
 | _=>simp [kind] at hk
theorem UD (c:Addr) (a:V) (l:List (Str×V)):(mf c (("part",a)::l)).lookup ("part":Str)=some a:=by
 unfold mf;rw [Υ,show (("part":Str)==("counts":Str))=false by decide +kernel,Υ,show (("part":Str)==("part":Str))=true by decide +kernel]
theorem Vd (c:Addr) (a v:V):(mf c [("part",a),("times",v)]).lookup ("times":Str)=some v:=by
 unfold mf;rw [Υ,show (("times":Str)==("counts":Str))=false by decide +kernel,Υ,show (("times":Str)==("part":Str))=false by decide +kernel,Υ,show (("times":Str)==("times":Str))=true by decide +kernel]
theorem Kp {k:Nat} {Z1 Z3 Z2 Z5 Z6 Z4 Z7 Z0:Addr} (R:g.aD Z7 "reckoned" "UseMaker.reckoned" Ax ["self","size"]) (aU:g.dR k "count_at" ["self","size"] (Vo (Cs.mk Z0 Z4 Z5 Z6 Z2 Z3 Z1 Z7) (m))) (Ze:Cls g.K Z7) (Zv:Yg g.K Z7 "counts") (Zn:Yg g.K Z7 "named"):g.Me (k+1) Z7 "reckoned" ["self","size"] (aQ (Cs.mk Z0 Z4 Z5 Z6 Z2 Z3 Z1 Z7) 5 (m+1)):=by
 refine R.me Z4i (λvs H Q E h=>by obtain ⟨w,t,p,sh,sz,rfl,hk,W,hg,hn,hs,hf,hR,q⟩:=h;rfl) λf_ cdv A outer s H vs Q E hr h=>?_
 obtain ⟨w,t,p,sh,sz,rfl,hk,W,hg,hn,hs,hf,hR,q⟩:=h;refine ⟨_,(Yi (Yn (VC (Yq YL (pv 1) Yh (Ys _)) Yh (XH aU hr (Yx (pv 0) rfl) (Ya (Ym Y3 (pv 1) Yh) Yd))))),?_⟩
 cases sh with
 | use x =>
  obtain ⟨dx,c,fs,hU,hd,hsm,hns,hp,bV,hc,hsub⟩:=W.at_ p _ hg;obtain ⟨a,e,hga,hcn⟩:=id hsub;have e:fs=fU (.ref a):=e;subst e;have hdr:dep (.use x)=0:=by simp [dep]
  rw [hdr] at hf hR
  have hcn:t.ns p - 1<=t.ns a:=hcn;walk_at "rd";refine Xy (λc=>?_) (λc=>?_)
  ·have e:sz=0:=by omega
   subst e;have:=q t H (.refl W _ _) hn (λps z=>by cases z) (QV hp ⟨a,rfl,rfl⟩ (show 4<=5 by decide) (ν _));rw [JQ] at this
   exact this
  ·obtain ⟨j,rfl⟩:∃ j,sz=j+1:=⟨sz - 1,by omega⟩
   obtain ⟨_,_,_,_,hda,_⟩:=W.at_ a _ hga;have fm:fu w j (dep (w.bk x))+5<=fu w (j+1) 0:=Vv hda (by omega);rw [show ((j+1:Nat):Int) - 1=(j:Int) by omega];refine ⟨_,_,_,hp,Ze,Zn,_,Km _ _,a,rfl,?_⟩;refine WA W hga (by omega) (by omega) (hR.mono (by omega)) λt2 H2 T2 hn2=>?_
   have T3:Tr (Cs.mk Z0 Z4 Z5 Z6 Z2 Z3 Z1 Z7) w t H t2 H2 (j+1) 0:=T2.mono (by omega);have own:=T3.own hg (by omega) (by omega);have:=q t2 H2 (T3.mono (by omega)) (by omega) (λps z=>by cases z) (QV (T2.fr _ _ hU.1 hp) ⟨a,rfl,rfl⟩ (show 4<=5 by decide) (show j+1+1 - 1<=_ by omega));rw [JR] at this
   exact this
 | _=>cases hk
theorem Kq {k:Nat} {Z1 Z3 Z2 Z5 Z6 Z4 Z7 Z0:Addr} (R:g.aD Z1 "reckoned" "AlikeMaker.reckoned" Ar ["self","size"]) (aU:g.dR k "count_at" ["self","size"] (Vo (Cs.mk Z0 Z4 Z5 Z6 Z2 Z3 Z1 Z7) (m))) (Za:Cls g.K Z1) (Zw:Yg g.K Z1 "counts") (Zx:Yg g.K Z1 "part") (Zk:Yg g.K Z1 "times"):g.Me (k+1) Z1 "reckoned" ["self","size"] (aQ (Cs.mk Z0 Z4 Z5 Z6 Z2 Z3 Z1 Z7) 6 (m+1)):=by
 refine R.me Z3B (λvs H Q E h=>by obtain ⟨w,t,p,sh,sz,rfl,hk,W,hg,hn,hs,hf,hR,q⟩:=h;rfl) λf_ cdv A outer s H vs Q E hr h=>?_
 obtain ⟨w,t,p,sh,sz,rfl,hk,W,hg,hn,hs,hf,hR,q⟩:=h;refine ⟨_,(Yf (YF (uG (Yq U8 (pv 1) (Yx (pv 0) rfl) (Ys _)) (U4 (Yq Gp (Ym Xg (pv 1) (Yx (pv 0) rfl)) Yh (Ys _)))).pt (Yi (Yn Yh)) Yw) (Yi (Yn (XH aU hr (Yx (pv 0) rfl) (Ya (Ym Y3 (Ym YX (pv 1) (Yx (pv 0) rfl)) Yh) Yd))))),?_⟩
 cases sh with
 | alike s k =>
  obtain ⟨dx,c,fs,hU,hd,hsm,hns,hp,bV,hc,hsub⟩:=W.at_ p _ hg;obtain ⟨⟨a,e,hga,hcn⟩,hk1,hk2⟩:=id hsub;have e:fs=fA k a:=e;subst e;have hdr:dep (.alike s k)=dep s+1:=by rw [dep]
  have hcn:(t.ns p - 1) / k<=t.ns a:=hcn;have hlt:kind s=kind s:=rfl;obtain ⟨_,_,_,_,hda,_⟩:=W.at_ a _ hga;have no:(sz<k\/sz%k≠0)->Q (.int 0) H:=λz=>by
   have:=q t H (.refl W _ _) hn (λps z=>by cases z) (QV hp ⟨a,rfl,rfl⟩ (show 4<=6 by decide) (show (sz+1 - 1) / k<=_ from ?_))
   ·rw [Uf,if_pos z] at this
    exact this
   ·rw [hn] at hcn
    rcases z with z | z
    ·rw [cw,Nat.div_eq_of_lt z];exact ν _
    ·rw [cw]
     refine Τ (kb ?_) hcn
     cases sz with
     | zero=>rfl
     | succ j =>
      rw [Nat.succ_div,if_neg λy=>z (Nat.mod_eq_zero_of_dvd y),cw];rfl
  have emod:(sz:Int)%(k:Int)=((sz%k:Nat):Int):=rfl;have ediv:(sz:Int) / (k:Int)=((sz / k:Nat):Int):=rfl;walk_at "rd";refine ⟨_,_,_,hp,Za,Zk,_,Vd _ _ _,_,rfl,Xy (λc=>no (.inl (by omega))) λc=>⟨_,_,_,hp,Za,Zk,_,Vd _ _ _,_,rfl,by omega,?_⟩⟩;rw [emod];refine Xy (λc2=>no (.inr λz=>c2 (by rw [z];rfl))) λc2=>?_
  have c2:sz%k=0:=by omega
  refine ⟨_,_,_,hp,Za,Zx,_,UD _ _ _,a,rfl,?_⟩;have h1:1<=sz / k:=(Nat.one_le_div_iff (by omega)).mpr (by omega);have h2:sz / k<=sz:=dm _ _;obtain ⟨j,hj⟩:∃ j,sz / k=j+1:=⟨sz / k - 1,by omega⟩;have fm:fu w j (dep s)+5<=fu w sz (dep (.alike s k)):=Vv (by omega) (by omega);refine (WA (Q:=Q) W hga (show j<=40 by omega) (by omega) (hR.mono (by omega)) λt2 H2 T2 hn2=>?_).map λsp h=>⟨_,_,_,hp,Za,Zk,_,Vd _ _ _,_,rfl,?_,?_⟩
  ·have T3:Tr (Cs.mk Z0 Z4 Z5 Z6 Z2 Z3 Z1 Z7) w t H t2 H2 sz 0:=T2.mono (by omega)
   have own:=T3.own hg (by omega) (by omega);have:=q t2 H2 (T3.mono (by omega)) (by omega) (λps z=>by cases z) (QV (T2.fr _ _ hU.1 hp) ⟨a,rfl,rfl⟩ (show 4<=6 by decide) (show (sz+1 - 1) / k<=_ by rw [cw,hj];exact hn2));rw [Uf,if_neg (by omega),hj] at this
   exact this
  ·exact YS (by omega) (by omega)
  ·rw [ediv,hj,show ((j+1:Nat):Int) - 1=(j:Int) by omega]
   exact h
 | _=>cases hk
def gO (bk:List Nat->Sh) (q:Sh) (s:Nat):List (Int×Int):=(ζ s).map λf=>(cnt bk q f,cnt bk (.many q) (s - 1 - f))
inductive qD (C:Cs) (l:Nat) (vs:List V) (H:Hp) (Q:VK) (E_:XK):Prop
 | mk (w:Wo) (t:Sw) (p:Addr) (s:Sh) (left:Nat) (h0:vs=[.ref p,.int left]) (h1:WI C w t H) (h2:w.reg p=some (.many s)) (h3:left<=40) (h4:left<=t.ns p) (h5:fu w left 0+3<=l) (h6:Xo w t left 0) (h7:∀ D t' H',Tr C w t H t' H' left 0->H D=none->¬ t'.U D->Blk H' D (gO w.bk s left)->(∀ dx c a,H p=some (.ins C.many dx (mf c (fM a)))->left<=t'.ns a)->Q (.ref D) H')
theorem Ydm {C:Cs} {vs:List V} {H:Hp} {Q:VK} {E:XK} (h:qD C 0 vs H Q E):False:=by
 obtain ⟨w,t,p,s,left,_,_,_,_,_,h,_⟩:=h;omega
theorem Kr {k:Nat} {Z1 Z3 Z2 Z5 Z6 Z4 Z7 Z0:Addr} (R:g.aD Z3 "blocks_at" "ManyMaker.blocks_at" Al ["self","left"]) (Z4o:g.Me k Z3 "count_at" ["self","size"] (ZO (Cs.mk Z0 Z4 Z5 Z6 Z2 Z3 Z1 Z7) 4 m)) (aU:g.dR k "count_at" ["self","size"] (Vo (Cs.mk Z0 Z4 Z5 Z6 Z2 Z3 Z1 Z7) (m))) (Zg:g.mg "range"=none) (Zc:Cls g.K Z3) (Zq:Yg g.K Z3 "counts") (Zt:Yg g.K Z3 "part"):g.Me (k+1) Z3 "blocks_at" ["self","left"] (qD (Cs.mk Z0 Z4 Z5 Z6 Z2 Z3 Z1 Z7) (m+1)):=by
 refine R.me Z3z (λvs H Q E h=>by obtain ⟨w,t,p,s,left,rfl,W,hg,hl,lE,hf,hR,q⟩:=h;rfl) λf_ cdv A outer s H vs Q E hr h=>?_
 obtain ⟨w,t,p,s,left,rfl,W,hg,hl,lE,hf,hR,q⟩:=h;refine ⟨_,(Yi (Yn (Xn (src:=[none,some 0,some 1]) (N':=(["first","self","left"]:List Str)) (g:=Yv 0) (.own (.cap (i:=0) rfl rfl (by first | exact .inl rfl | exact .inr rfl) (.cap (i:=1) rfl rfl (by first | exact .inl rfl | exact .inr rfl) .nil))) rfl (Y2 rfl Zg (Ya (pv 1) Yd)) (λcl C s₀ H₀ fp pn=>(Yu (i:=0) (show ay (["first","self","left"]:List Str) by decide +kernel) rfl (.inl rfl) (.inr rfl))) (λcl C s₀ H₀ fp pn=>Y5) (λcl C s₀ H₀ fp pn=>(Xb (Ya (XH aU hr (QL (K:=g.K) (pv 1) rfl) (Ya (pv 0) Yd)) (Ya (Xz Z4o Zc hr (pv 1) (Ya (Ym Y3 (Ym Y3 (pv 2) Yh) (pv 0)) Yd)) Yd))))))),?_⟩;obtain ⟨dx,c,fs,hU,hd,hsm,hns,hp,bV,hc,hsub⟩:=W.at_ p _ hg;obtain ⟨a,e,hga,hcn⟩:=id hsub;have e:fs=fM a:=e;subst e;have hcn:t.ns p - 1<=t.ns a:=hcn;have hdr:dep (.many s)=dep s+1:=by rw [dep]
 obtain ⟨_,_,_,_,hda,_⟩:=W.at_ a _ hga;walk_at "rd";refine WU (n:=left) (λD i zs H'=>∃ t',Tr (Cs.mk Z0 Z4 Z5 Z6 Z2 Z3 Z1 Z7) w t H t' H' left 0/\(0<i->i<=t'.ns a)/\zs.length=i/\H' D=some (.lst zs)/\¬ t'.U D/\∀ (j:Nat) x,zs[j]?=some x->∃ T,x = .ref T/\w.D T=none/\¬ t'.U T/\T≠D/\H' T=some (.tup [.int (cnt w.bk s j),.int (cnt w.bk (.many s) (left - 1 - j))])) (λR r=>by walk_at "rd";exact r) (by omega) ?_ ?_ ?_ ?_
 ·intro D hD
  exact ⟨t,(Tr.refl W _ _).put hD (W.new hD).2 _,λz=>absurd z (by decide),rfl,Yb,(W.new hD).2,λj x hx=>by simp at hx⟩
 ·rintro D i zs H' ⟨t',_,_,h1,h2,_⟩
  exact ⟨h1,h2⟩
 ·rintro D i zs H' hD hi ⟨t',T1,hna,hz,hd',cX,hts⟩ R r
  have fm:fu w i (dep s)+5<=fu w left 0:=Vv (by omega) (by omega);have dD:w.D D=none:=(W.new hD).1;walk_at "rd";refine ⟨_,_,_,T1.fr _ _ hU.1 hp,Zc,Zt,_,UD _ _ _,a,rfl,?_⟩;refine WA T1.wi hga (by omega) (by omega) ((T1.ready hR).mono (by omega)) λt2 H2 T2 hn2=>?_
  have iI:=T1.trans (T2.mono (by omega));have own:=iI.own hg (by omega) lE;have hd2:=T2.fr _ _ dD hd';have gW:=T2.ours cX hd';have hp2:=iI.fr _ _ hU.1 hp;rw [show (left:Int) - 1 - (i:Int)=((left - 1 - i:Nat):Int) by omega];refine ⟨_,_,hp2,Wm (by decide +kernel) hsub,w,t2,p,.many s,left - 1 - i,rfl,rfl,T2.wi,hg,by omega,by omega,λ_=>⟨few (by decide),λX gX=>?_⟩,λh=>absurd h (by omega)⟩;have gK:X≠D:=ai (Yl hd2 gX);have sX:=Yk.aj gX (.tup [.int (cnt w.bk s i),.int (cnt w.bk (.many s) (left - 1 - i))]);refine r _ _ (sX _ _ hd2) ⟨t2,(iI.same sX).put hD gW _,λ_=>hn2,by rw [Μ,hz];rfl,Yb,gW,λj x hx=>?_⟩;by_cases c:j<zs.length
  ·rw [av c] at hx
   obtain ⟨Y,rfl,y1,y2,y3,y4⟩:=hts j x hx;exact ⟨Y,rfl,y1,T2.ours y2 y4,y3,by rw [Ye y3];exact sX _ _ (T2.fr _ _ y1 y4)⟩
  ·have hj:j=zs.length:=by
    have:=(Η.mp hx).1;rw [Μ,aE] at this
    omega
   subst hj;rw [ax (Κ _),gc] at hx
   have:V.ref X=x:=Δ hx;subst this;exact ⟨X,rfl,(T2.wi.new gX).1,(T2.wi.new gX).2,gK,by rw [Ye gK,Yb,hz]⟩
 ·rintro D zs H' hD ⟨t',T1,hna,hz,hd',cX,hts⟩
  refine q D t' H' T1 hD cX ⟨zs,hd',by rw [hz,gO,Β,a4],λj x y hx hy=>?_⟩ λbW c' a' ha'=>?_
  rotate_left
  ·rw [hp] at ha'
   have e:=Δ ha'
   injection e with _ _ e
   cases V.ref.inj (UC (Ko e))
   by_cases c:0<left
   ·exact hna c
   ·omega
  have hj:=(Η.mp hx).1;rw [gO,Λ,aS (by omega)] at hy
  cases Δ hy
  obtain ⟨X,rfl,_,_,_,hX⟩:=hts j x hx;exact ⟨X,rfl,hX⟩
theorem Ks (bk:List Nat->Sh) (q:Sh) (s:Nat):(gO bk q s).length=s:=by rw [gO,Β,a4]
theorem Ku (bk:List Nat->Sh) (q:Sh) (s:Nat):((gO bk q (s+1)).map λp=>p.1*p.2).sum=cnt bk (.many q) (s+1):=by
 rw [Yfj,gO,bo];rfl
theorem QW {bk:List Nat->Sh} {q:Sh} {s:Nat} {x:Int×Int} (h:x∈gO bk q s):∃ f,f<s/\x=(cnt bk q f,cnt bk (.many q) (s - 1 - f)):=by
 obtain ⟨f,hf,rfl⟩:=ac.mp h;exact ⟨f,bb.mp hf,rfl⟩
theorem Kv {k:Nat} {Z1 Z3 Z2 Z5 Z6 Z4 Z7 Z0:Addr} (R:g.aD Z3 "reckoned" "ManyMaker.reckoned" Am ["self","size"]) (qz:g.Fn k "ways_of" ["blocks"] (vC g.K)) (Bp:g.Me k Z3 "blocks_at" ["self","left"] (qD (Cs.mk Z0 Z4 Z5 Z6 Z2 Z3 Z1 Z7) m)) (Zc:Cls g.K Z3) (Zq:Yg g.K Z3 "counts") (Zt:Yg g.K Z3 "part"):g.Me (k+1) Z3 "reckoned" ["self","size"] (aQ (Cs.mk Z0 Z4 Z5 Z6 Z2 Z3 Z1 Z7) 4 (m+1)):=by
 refine R.me Z3R (λvs H Q E h=>by obtain ⟨w,t,p,sh,sz,rfl,hk,W,hg,hn,hs,hf,hR,q⟩:=h;rfl) λf_ cdv A outer s H vs Q E hr h=>?_
 obtain ⟨w,t,p,sh,sz,rfl,hk,W,hg,hn,hs,hf,hR,q⟩:=h;refine ⟨_,(Yi (Yn (VC (Yq YL (pv 1) Yh (Ys _)) Yh (YA qz hr (Ya (Xz Bp Zc hr (pv 0) (Ya (pv 1) Yd)) Yd))))),?_⟩
 cases sh with
 | many s =>
  obtain ⟨dx,c,fs,hU,hd,hsm,hns,hp,bV,hc,hsub⟩:=W.at_ p _ hg;obtain ⟨a,e,hga,hcn⟩:=id hsub;have e:fs=fM a:=e;subst e;obtain ⟨_,_,_,_,_,lG,_⟩:=W.at_ a _ hga;walk_at "rd";refine Xy (λc=>?_) (λc=>?_)
  ·have e:sz=0:=by omega
   subst e;have:=q t H (.refl W _ _) hn (λps z=>by cases z) (QV hp ⟨a,rfl,rfl⟩ (show 4<=4 by decide) (ν _));rw [JN] at this
   exact this
  ·obtain ⟨j,rfl⟩:∃ j,sz=j+1:=⟨sz - 1,by omega⟩
   have fz:fu w (j+1) 0<=fu w (j+1) (dep (.many s)):=by unfold fu;omega
   refine ⟨_,_,hp,Wm (by decide +kernel) hsub,w,t,p,s,j+1,rfl,W,hg,hs,by omega,by omega,hR.mono (by omega),λD t' H' T1 gD cX hB hpc=>?_⟩;refine ⟨D,_,rfl,hB,by rw [Ks];omega,λx hx=>?_,λH4 s4=>?_⟩
   ·obtain ⟨f,hf',rfl⟩:=QW hx
    exact ⟨lG f (by omega),hsm _ (by omega)⟩
   ·have own:=T1.own hg (ν _) (by omega)
    have:=q t' H4 ((T1.mono (by omega)).same s4) (by omega) (λps z=>by cases z) (QV (s4 _ _ (T1.fr _ _ hU.1 hp)) ⟨a,rfl,rfl⟩ (show 4<=4 by decide) (show j+1+1 - 1<=_ from hpc dx _ a hp));rw [Ku];exact this
 | _=>cases hk
theorem Kw {k:Nat} {Z1 Z3 Z2 Z5 Z6 Z4 Z7 Z0:Addr} (R:g.aD Z2 "blocks_at" "PickMaker.blocks_at" Ah ["self","size"]) (aU:g.dR k "count_at" ["self","size"] (Vo (Cs.mk Z0 Z4 Z5 Z6 Z2 Z3 Z1 Z7) (m))) (Zb:Cls g.K Z2) (Zp:Yg g.K Z2 "counts") (Zs:Yg g.K Z2 "marks") (Zm:Yg g.K Z2 "parts"):g.Me (k+1) Z2 "blocks_at" ["self","size"] (qC (Cs.mk Z0 Z4 Z5 Z6 Z2 Z3 Z1 Z7) (m+1)):=by
 refine R.me Z3y (λvs H Q E h=>by obtain ⟨w,t,p,mk,ps,sz,rfl,W,hg,hs,hsn,hf,hR,q⟩:=h;rfl) λf_ cdv A outer s H vs Q E hr h=>?_
 obtain ⟨w,t,p,mk,ps,sz,rfl,W,hg,hs,hsn,hf,hR,q⟩:=h;refine ⟨_,(Yi (Yn (Xn (src:=[none,some 1]) (N':=(["part","size"]:List Str)) (g:=Yv 0) (.own (.cap (i:=1) rfl rfl (by first | exact .inl rfl | exact .inr rfl) .nil)) rfl (Xl (Yx (pv 0) rfl)) (λcl C s₀ H₀ fp pn=>(Yu (i:=0) (show ay (["part","size"]:List Str) by decide +kernel) rfl (.inl rfl) (.inr rfl))) (λcl C s₀ H₀ fp pn=>Y5) (λcl C s₀ H₀ fp pn=>(Xb (Ya (XH aU hr (pv 0) (Ya (pv 1) Yd)) (Ya Yh Yd))))))),?_⟩;walk_at "rd";obtain ⟨dx,c,fs,hU,hd,hsm,hns,hp,bV,hc,hsub⟩:=W.at_ p _ hg;obtain ⟨M,P,as,rfl,h2,h3,h4,h5,h6,h7⟩:=hsub;have hdr:dep (.pick mk ps)=YH ps+1:=by rw [dep]
 have hal:=h6.1;refine Yec (K:=g.K) (b:=P) (xs:=as.map V.ref) (λD i zs H'=>∃ t',Tr (Cs.mk Z0 Z4 Z5 Z6 Z2 Z3 Z1 Z7) w t H t' H' sz (YH ps+1)/\(∀ (j:Nat) a,j<i->as[j]?=some a->sz<t'.ns a)/\zs.length=i/\H' D=some (.lst zs)/\¬ t'.U D/\∀ (j:Nat) x q,zs[j]?=some x->ps[j]?=some q->∃ T,x = .ref T/\w.D T=none/\¬ t'.U T/\T≠D/\H' T=some (.tup [.int (cnt w.bk q sz),.int 1])) (λR r=>by walk_at "rd";exact ⟨_,_,_,hp,Zb,Zm,_,Kl _ _ _,r⟩) (au.of h5) (by rw [Β];omega) ?_ ?_ ?_ ?_
 ·intro D hD
  exact ⟨t,(Tr.refl W _ _).put hD (W.new hD).2 _,λj a hj=>absurd hj (Nat.not_lt_zero _),rfl,Yb,(W.new hD).2,λj x q hx=>by simp at hx⟩
 ·rintro D i zs H' hD ⟨t',T1,_,h1,h2',_⟩
  exact ⟨h1,h2',au.of (T1.fr _ _ h3.1 h5)⟩
 ·rintro D i x zs H' hD hx ⟨t',T1,hna,hz,hd',cX,hts⟩ R r
  rw [Λ] at hx
  obtain ⟨a,ha,rfl⟩:=ε.mp hx;have hi:=(Η.mp ha).1;have hpi:ps[i]?=some (ps[i]'(by omega)):=Ε _;generalize ps[i]'(by omega)=sh at hpi;have hga:=h6.2 i a sh ha hpi;have hds:dep sh<=YH ps:=X9 (Ξ hpi);have fm:fu w sz (dep sh)+5<=fu w sz (YH ps+1):=Vv (by omega) (by omega);have dD:w.D D=none:=(W.new hD).1;walk_at "rd";refine WA T1.wi hga (by omega) (by omega) ((T1.ready hR).mono (by omega)) λt2 H2 T2 hn2=>⟨few (by decide),λX gX=>?_⟩
  have iI:=T1.trans (T2.mono (by omega));have hd2:=T2.fr _ _ dD hd';have gW:=T2.ours cX hd';have gK:X≠D:=ai (Yl hd2 gX);have sX:=Yk.aj gX (.tup [.int (cnt w.bk sh sz),.int 1]);have RX:∀ (j:Nat) b,j<i+1->as[j]?=some b->sz<t2.ns b:=λj b hj hb=>by
   by_cases c:j<i
   ·have hpj:ps[j]?=some (ps[j]'(by have:=(Η.mp hb).1;omega)):=Ε _
    have:=(T2.gr b _ (h6.2 j b _ hb hpj)).up;have:=hna j b c hb;omega
   ·have:j=i:=by omega
    subst this;rw [ha] at hb
    cases Δ hb
    exact hn2
  refine r _ _ (sX _ _ hd2) ⟨t2,(iI.same sX).put hD gW _,RX,by rw [Μ,hz];rfl,Yb,gW,λj x q hx hq=>?_⟩;by_cases c:j<zs.length
  ·rw [av c] at hx
   obtain ⟨Y,rfl,y1,y2,y3,y4⟩:=hts j x q hx hq;exact ⟨Y,rfl,y1,T2.ours y2 y4,y3,by rw [Ye y3];exact sX _ _ (T2.fr _ _ y1 y4)⟩
  ·have hj:j=zs.length:=by
    have:=(Η.mp hx).1;rw [Μ,aE] at this
    omega
   subst hj;rw [ax (Κ _),gc] at hx
   have:V.ref X=x:=Δ hx;subst this;rw [hz,hpi] at hq
   have:=Δ hq;subst this;exact ⟨X,rfl,(T2.wi.new gX).1,(T2.wi.new gX).2,gK,by rw [Ye gK,Yb]⟩
 ·rintro D zs H' hD ⟨t',T1,hna,hz,hd',cX,hts⟩
  rw [Β] at hz hna
  refine q D t' H' T1 hD cX ⟨zs,hd',by rw [hz,Β,hal],λj x y hx hy=>?_⟩ λa' ha'=>?_
  rotate_left
  ·obtain ⟨j,hj⟩:=List.mem_iff_getElem?.mp (Yfl hp h5 ha')
   exact hna j a' (Η.mp hj).1 hj
  have hj:=(Η.mp hx).1;rw [Λ] at hy
  obtain ⟨q',hq',rfl⟩:=ε.mp hy;obtain ⟨X,rfl,_,_,_,hX⟩:=hts j x q' hx hq';exact ⟨X,rfl,hX⟩
theorem Ky {k:Nat} {Z1 Z3 Z2 Z5 Z6 Z4 Z7 Z0:Addr} (R:g.aD Z2 "reckoned" "PickMaker.reckoned" Ai ["self","size"]) (qz:g.Fn k "ways_of" ["blocks"] (vC g.K)) (Bq:g.Me k Z2 "blocks_at" ["self","size"] (qC (Cs.mk Z0 Z4 Z5 Z6 Z2 Z3 Z1 Z7) m)) (Zb:Cls g.K Z2) (Zp:Yg g.K Z2 "counts") (Zs:Yg g.K Z2 "marks") (Zm:Yg g.K Z2 "parts"):g.Me (k+1) Z2 "reckoned" ["self","size"] (aQ (Cs.mk Z0 Z4 Z5 Z6 Z2 Z3 Z1 Z7) 3 (m+1)):=by
 refine R.me Z3P (λvs H Q E h=>by obtain ⟨w,t,p,sh,sz,rfl,hk,W,hg,hn,hs,hf,hR,q⟩:=h;rfl) λf_ cdv A outer s H vs Q E hr h=>?_
 obtain ⟨w,t,p,sh,sz,rfl,hk,W,hg,hn,hs,hf,hR,q⟩:=h;refine ⟨_,(Yi (Yn (YA qz hr (Ya (Xz Bq Zb hr (pv 0) (Ya (pv 1) Yd)) Yd)))),?_⟩
 cases sh with
 | pick mk ps =>
  obtain ⟨dx,c,fs,hU,hd,hsm,hns,hp,bV,hc,hsub⟩:=W.at_ p _ hg;have hno:=λ{m:Str} (h:isF m=false)=>Wm (c:=c) h hsub
  obtain ⟨M,P,as,rfl,h2,h3,h4,h5,h6,h7⟩:=hsub;have hdr:dep (.pick mk ps)=YH ps+1:=by rw [dep]
  rw [hdr] at hf hR
  walk_at "rd";refine ⟨_,_,hp,hno (by decide +kernel),w,t,p,mk,ps,sz,rfl,W,hg,hs,by omega,by omega,hR.mono (by omega),λD t' H' T1 gD cX hB hpc=>?_⟩;refine ⟨D,_,rfl,hB,by rw [Β];omega,λx hx=>?_,λH4 s4=>?_⟩
  ·obtain ⟨q',hq',rfl⟩:=ac.mp hx
   obtain ⟨i,hi,rfl⟩:=List.getElem_of_mem hq';have hai:as[i]?=some (as[i]'(by have:=h6.1;omega)):=Ε _;have hga:=h6.2 i _ _ hai (Ε hi);obtain ⟨_,_,_,_,_,lG,_⟩:=W.at_ _ _ hga;exact ⟨lG _ (by omega),1,by decide,(by decide:(1:Int).natAbs<2^1)⟩
  ·have own:=T1.own hg (by omega) (by omega)
   have:=q t' H4 (by rw [hdr];exact (T1.mono (by omega)).same s4) (by omega) (λps z=>by cases z) (λbW c' fs bs e h b hb=>by
    obtain ⟨M',P',rfl,hP'⟩:=h;rw [s4 _ _ (T1.fr _ _ hU.1 hp)] at e
    have e:=Δ e
    injection e with _ _ e
    obtain ⟨_,rfl⟩:=Kh e;rw [s4 _ _ (T1.fr _ _ h3.1 h5)] at hP'
    have e:=Δ hP'
    injection e with e
    cases VU e
    have:=hpc b ⟨dx,c,M,P,as,hp,h5,hb⟩
    show sz+1<=_
    omega)
   rw [JM] at this
   rw [bo,show ((λp=>p.1*p.2) ∘ λsh=>(cnt w.bk sh sz,(1:Int)))=λsh=>cnt w.bk sh sz by funext z;exact Int.mul_one _];exact this
 | _=>cases hk
abbrev aR:=List (List Nat×Sh)
def aF (prs:aR) (x:List Nat):Sh:=((prs.find? λq=>decide (q.1=x)).map (·.2)).getD (.row [])
mutual
def aH (prs:aR):Sh->Prop
 | .w _ _=>True
 | .t sg=>1<=sg.length/\sg.length<=62/\∀ c∈sg,c<1000
 | .row ps=>ps.length<=100/\Xf prs ps
 | .pick mk ps=>mk.length=ps.length/\ps.length<=100/\Xf prs ps/\∀ m∈mk,bu (S m)=true
 | .many p=>aH prs p
 | .alike p n=>aH prs p/\1<=n/\n<=100
 | .use x=>∃ q,(prs.find? λq=>decide (q.1=x))=some q
def Xf (prs:aR):List Sh->Prop
 | []=>True
 | p::ps=>aH prs p/\Xf prs ps
end
theorem WB {prs:aR} {p:Sh}:∀ {ps:List Sh},Xf prs ps->p∈ps->aH prs p
 | q::ps,h,hm=>by
  rw [Xf] at h
  rcases Ν.mp hm with rfl | hm
  ·exact h.1
  ·exact WB h.2 hm
theorem UX {prs:aR}:∀ {ps:List Sh} (i:Nat),Xf prs ps->Xf prs (ps.drop i)
 | _,0,h=>h
 | [],i+1,h=>h
 | q::ps,i+1,h=>by
  rw [Xf] at h
  exact UX i h.2
mutual
def wt:Sh->Nat
 | .row ps=>aO ps+1
 | .pick _ ps=>aO ps+1
 | .many p=>wt p+1
 | .alike p _=>wt p+1
 | _=>1
def aO:List Sh->Nat
 | []=>0
 | p::ps=>wt p+aO ps
end
theorem Vx (sh:Sh):1<=wt sh:=by cases sh<;>simp [wt]
theorem Br {p:Sh}:∀ {ps:List Sh},p∈ps->wt p<=aO ps
 | q::ps,h=>by
  rw [aO];rcases Ν.mp h with rfl | h
  ·omega
  ·have:=Br h
   omega
theorem VV:∀ (ps:List Sh) (i:Nat),aO (ps.drop i)<=aO ps
 | _,0=>Κ _
 | [],i+1=>Κ _
 | q::ps,i+1=>by
  have:=VV ps i;rw [List.drop_succ_cons,aO];omega
theorem Qi {a b:List Nat} (h:S a=S b):a=b:=by
 unfold S at h
 injection h with h
 have:=congrArg Array.toList h;simpa using this
def vG:Γ->Str
 | .tuple (.str x::_)=>x
 | _=>""
def tg (k:Nat):Str:=(["whole","text","row","pick","many","use","alike"]:List Str).getD k ""
theorem Kz (a:Sh):vG (kd a)=tg (kind a):=by cases a<;>rw [kd]<;>rfl
theorem Yhz:∀ i<7,∀ j<7,tg i=tg j->i=j:=by decide +kernel
theorem KC (a:Sh):kind a<7:=by cases a<;>simp [kind]
theorem WC {a b:Sh} (h:kd a=kd b):kind a=kind b:=Yhz _ (KC a) _ (KC b) (by rw [<- Kz,<- Kz,h])
mutual
theorem Uh {prs:aR}:∀ {a b:Sh},aH prs a->aH prs b->kd a=kd b->a=b
 | .w lo span,b,_,_,h=>by
  cases b with
  | w lo' span' =>
   simp only [kd,cr,cK,PyData.int.injEq,and_true,true_and] at h;obtain ⟨rfl,h⟩:=h;have:span=span':=by omega
   rw [this]
  | _=>cases WC h
 | .t sg,b,_,_,h=>by
  cases b with
  | t sg' =>
   simp only [kd,cr,cK,PyData.str.injEq,and_true,true_and] at h;rw [Qi h]
  | _=>cases WC h
 | .row ps,b,h1,h2,h=>by
  cases b with
  | row ps' =>
   simp only [kd,cr,cK,and_true,true_and] at h;rw [aH] at h1 h2
   rw [KD h1.2 h2.2 h]
  | _=>cases WC h
 | .pick mk ps,b,h1,h2,h=>by
  cases b with
  | pick mk' ps' =>
   simp only [kd,cr,cK,and_true,true_and] at h;rw [aH] at h1 h2
   obtain ⟨e1,e2⟩:=KH h1.1 h2.1 h1.2.2.1 h2.2.2.1 h;rw [e1,e2]
  | _=>cases WC h
 | .many p,b,h1,h2,h=>by
  cases b with
  | many p' =>
   simp only [kd,cr,cK,and_true,true_and] at h;rw [aH] at h1 h2
   rw [Uh h1 h2 h]
  | _=>cases WC h
 | .alike p n,b,h1,h2,h=>by
  cases b with
  | alike p' n' =>
   simp only [kd,cr,cK,PyData.int.injEq,and_true,true_and] at h;rw [aH] at h1 h2
   rw [Uh h1.1 h2.1 h.1,Int.ofNat.inj h.2]
  | _=>cases WC h
 | .use x,b,_,_,h=>by
  cases b with
  | use x' =>
   simp only [kd,cr,cK,PyData.str.injEq,and_true,true_and] at h;rw [Qi h]
  | _=>cases WC h
theorem KD {prs:aR}:∀ {a b:List Sh},Xf prs a->Xf prs b->bQ a=bQ b->a=b
 | [],[],_,_,_=>rfl
 | p::ps,q::qs,h1,h2,h=>by
  rw [bQ,bQ] at h
  rw [Xf] at h1 h2
  injection h with e1 e2
  rw [Uh h1.1 h2.1 e1,KD h1.2 h2.2 e2]
 | [],_::_,_,_,h=>by simp [bQ] at h
 | _::_,[],_,_,h=>by simp [bQ] at h
theorem KH {prs:aR}:∀ {mk mk':List (List Nat)} {a b:List Sh},mk.length=a.length->mk'.length=b.length->Xf prs a->Xf prs b->kdp mk a=kdp mk' b->mk=mk'/\a=b
 | [],[],[],[],_,_,_,_,_=>⟨rfl,rfl⟩
 | m::mk,m'::mk',p::ps,q::qs,l1,l2,h1,h2,h=>by
  rw [kdp,kdp] at h
  rw [Xf] at h1 h2
  injection h with e1 e2
  simp only [cr,cK,PyData.str.injEq,and_true] at e1;obtain ⟨r1,r2⟩:=KH (by simpa using l1) (by simpa using l2) h1.2 h2.2 e2;rw [Qi e1.1,Uh h1.1 h2.1 e1.2,r1,r2];exact ⟨rfl,rfl⟩
 | [],_,_::_,_,l,_,_,_,_=>by simp at l
 | _::_,_,[],_,l,_,_,_,_=>by simp at l
 | _,[],_,_::_,_,l,_,_,_=>by simp at l
 | _,_::_,_,[],_,l,_,_,_=>by simp at l
 | [],_::_,[],_::_,_,_,_,_,h=>by simp [kdp] at h
 | _::_,[],_::_,[],_,_,_,_,h=>by simp [kdp] at h
end
theorem pn {a b:Nat} (h:a<=b):(2:Nat)^a<=2^b:=eM (by decide) h
theorem KJ {α β:Type} {f:α->List β} {B:Nat}:∀ {l:List α},(∀ x∈l,(f x).length<=B)->(l.flatMap f).length<=l.length*B
 | [],_=>by simp
 | a::l,h=>by
  have h1:=h a (.head _);have h2:=KJ (l:=l) λx hx=>h x (.tail _ hx)
  rw [eK,Μ,ω,iL];omega
theorem KN {β:Type} {f:Nat->List β} {n B D:Nat} (hn:n<=64) (h:∀ x<n,(f x).length<=2^B) (hD:6+B<=D):((ζ n).flatMap f).length<=2^D:=by
 refine Τ (KJ λx hx=>h x (bb.mp hx)) ?_;rw [a4];refine Τ (dA _ (show n<=2^6 by omega)) ?_;rw [<- Nat.pow_add];exact pn hD
theorem Bt {α β γ:Type} {g:α->β->γ} {A:List α} {B:List β} {a b:Nat} (h1:A.length<=2^a) (h2:B.length<=2^b):(bf g A B).length<=2^(a+b):=by
 rw [X1,Nat.pow_add];exact Nat.mul_le_mul h1 h2
theorem KQ {sg:List Nat} (h:sg.length<=62):∀ s,(cj sg s).length<=2^(6*s)
 | 0=>Κ _
 | s+1=>by
  rw [cj];exact Bt (b:=6) (KQ h s) (by omega)
theorem KR {α:Type} {F:Nat->List α} {a:Nat} (ha:a<=282):∀ {n s:Nat},(∀ f,f<n->(F f).length<=2^(300*f+a))->s<=n->n<=45->(cC F s).length<=2^(300*s)
 | n,0,_,_,_=>Κ _
 | n,s+1,h,hs,hn=>by
  rw [XC];exact KN (B:=300*s+a) (by omega) (λf hf=>Τ (Bt (h f (by omega)) (KR ha (s:=s - f) h (by omega) hn)) (pn (by omega))) (by omega)
theorem KY (span:Nat) (s:Nat):0<=wc span s/\wc span s<=2^s:=by
 have p:(0:Int)<2^s:=Int.pow_pos (by decide);unfold wc
 split
 ·split<;>omega
 ·omega
structure jt (prs:aR):Prop where
 len:prs.length<=3
 ok:∀ q∈prs,aH prs q.2
 wt:∀ q∈prs,wt q.2<=24
 dp:∀ q∈prs,dep q.2<=2
theorem QX {prs:aR} {x:List Nat} {q:List Nat×Sh} (h:(prs.find? λq=>decide (q.1=x))=some q):aF prs x=q.2/\q∈prs:=by
 rw [aF,h];exact ⟨rfl,List.mem_of_find?_eq_some h⟩
section
 variable {E:List Nat->Nat->List Γ} {prs:aR} {n:Nat}
mutual
theorem Vy (hn:n<=45) (hE:∀ x s,aH prs (.use x)->s<n->(E x s).length<=2^(300*s+282)):∀ (sh:Sh) (s:Nat),s<=n->aH prs sh->wt sh<=24->(bw E sh s).length<=2^(300*s+(12*wt sh - 6))
 | .w lo span,s,hs,h,hw=>by
  rw [bw,Β,a4];have e:((2^s:Nat):Int)=2^s:=by norm_cast
  have h2:=(KY span s).2;rw [<- e] at h2
  exact Τ (Int.toNat_le.mpr h2) (pn (show s<=300*s+(12*wt (.w lo span) - 6) by omega))
 | .t sg,s,hs,h,hw=>by
  rw [aH] at h
  rw [bw,Β];exact Τ (KQ h.2.1 s) (pn (by omega))
 | .row ps,s,hs,h,hw=>by
  rw [aH] at h
  rw [wt] at hw ⊢
  rw [bw,Β];exact Τ (Bu hn hE ps s hs h.2 (by omega)) (pn (by omega))
 | .pick mk ps,s,hs,h,hw=>by
  rw [aH] at h
  rw [wt] at hw ⊢
  rw [bw];exact Τ (KZ hn hE mk ps s hs h.2.2.1 (by omega)) (pn (by omega))
 | .many p,s,hs,h,hw=>by
  rw [aH] at h
  rw [wt] at hw ⊢
  rw [bw,Β];exact Τ (KR (a:=12*wt p - 6) (by omega) (λf hf=>Vy hn hE p f (by omega) h (by omega)) hs hn) (pn (by omega))
 | .alike p k,s,hs,h,hw=>by
  rw [aH] at h
  rw [wt] at hw ⊢
  rw [bw]
  split
  ·exact ν _
  ·rw [Β]
   have:=dm s k;exact Τ (Vy hn hE p (s / k - 1) (by omega) h.1 (by omega)) (pn (by omega))
 | .use x,s,hs,h,hw=>by
  rw [bw]
  split
  ·exact ν _
  ·exact Τ (hE x (s - 1) h (by omega)) (pn (by omega))
theorem Bu (hn:n<=45) (hE:∀ x s,aH prs (.use x)->s<n->(E x s).length<=2^(300*s+282)):∀ (ps:List Sh) (s:Nat),s<=n->Xf prs ps->aO ps<=24->(eV E ps s).length<=2^(300*s+12*aO ps)
 | [],s,hs,h,hw=>by
  rw [eV]
  split
  ·exact Nat.one_le_two_pow
  ·exact ν _
 | p::ps,s,hs,h,hw=>by
  rw [Xf] at h
  rw [aO] at hw ⊢
  have:=Vx p;rw [eV];exact KN (B:=300*s+(12*wt p - 6)+12*aO ps) (by omega) (λf hf=>Τ (Bt (Vy hn hE p f (by omega) h.1 (by omega)) (Bu hn hE ps (s - f) (by omega) h.2 (by omega))) (pn (by omega))) (by omega)
theorem KZ (hn:n<=45) (hE:∀ x s,aH prs (.use x)->s<n->(E x s).length<=2^(300*s+282)):∀ (mk:List (List Nat)) (ps:List Sh) (s:Nat),s<=n->Xf prs ps->aO ps<=24->(cM E mk ps s).length<=2^(300*s+12*aO ps)
 | mk,[],s,hs,h,hw=>by rw [cM];exact ν _
 | mk,p::ps,s,hs,h,hw=>by
  rw [Xf] at h
  rw [aO] at hw ⊢
  have:=Vx p;rw [cM,Μ,Β];have a:=Τ (Vy hn hE p s hs h.1 (by omega)) (pn (show _<=300*s+12*(wt p+aO ps) - 1 by omega));have b:=Τ (KZ hn hE mk.tail ps s hs h.2 (by omega)) (pn (show _<=300*s+12*(wt p+aO ps) - 1 by omega));obtain ⟨j,hj⟩:∃ j,300*s+12*(wt p+aO ps)=j+1:=⟨300*s+12*(wt p+aO ps) - 1,by omega⟩;rw [hj,cw] at a b
  rw [hj,Nat.pow_succ];omega
end
end
section
 variable (prs:aR) (ob:jt prs)
 include ob
theorem Bv:∀ (n:Nat) (x:List Nat) (s:Nat),s<=45->aH prs (.use x)->s<n->(iH (aF prs) n x s).length<=2^(300*s+282)
 | n+1,x,s,h45,h,hs=>by
  rw [aH] at h
  obtain ⟨q,hq⟩:=h;obtain ⟨e,hm⟩:=QX hq
  show (bw (iH (aF prs) n) (aF prs x) s).length<=_
  rw [e];have:=ob.wt q hm;exact Τ (Vy (n:=s) h45 (λx' s' h' hs'=>Bv n x' s' (by omega) h' (by omega)) q.2 s (Κ _) (ob.ok q hm) this) (pn (by omega))
theorem Ui (sh:Sh) (s:Nat) (hs:s<=45) (h:aH prs sh) (hw:wt sh<=24):0<=cnt (aF prs) sh s/\cnt (aF prs) sh s<=2^(300*s+(12*wt sh - 6)):=by
 refine ⟨tZ _ _ _,?_⟩;have:=Vy (n:=s) hs (λx' s' h' hs'=>Bv prs ob s x' s' (by omega) h' hs') sh s (Κ _) h hw;rw [cnt]
 exact_mod_cast this
theorem K1 (ps:List Sh) (s:Nat) (hs:s<=45) (h:Xf prs ps) (hw:aO ps<=24):0<=YY (aF prs) ps s/\YY (aF prs) ps s<=2^(300*s+12*aO ps):=by
 refine ⟨Ew _ _ _,?_⟩;have:=Bu (n:=s) hs (λx' s' h' hs'=>Bv prs ob s x' s' (by omega) h' hs') ps s (Κ _) h hw;rw [YY]
 exact_mod_cast this
end
mutual
theorem X5:∀ sh:Sh,KO (kd sh)
 | .w _ _=>by rw [kd];exact .tup (.cons (.str _) (.cons (.int _) (.cons (.int _) .nil)))
 | .t _=>by rw [kd];exact .tup (.cons (.str _) (.cons (.str _) .nil))
 | .many p=>by rw [kd];exact .tup (.cons (.str _) (.cons (X5 p) .nil))
 | .alike p _=>by rw [kd];exact .tup (.cons (.str _) (.cons (X5 p) (.cons (.int _) .nil)))
 | .row ps=>by rw [kd];exact .tup (.cons (.str _) (.cons (.tup (K3 ps)) .nil))
 | .pick mk ps=>by rw [kd];exact .tup (.cons (.str _) (.cons (.tup (K4 mk ps)) .nil))
 | .use _=>by rw [kd];exact .tup (.cons (.str _) (.cons (.str _) .nil))
theorem K3:∀ ps:List Sh,gG (bQ ps)
 | []=>by rw [bQ];exact .nil
 | p::ps=>by rw [bQ];exact .cons (X5 p) (K3 ps)
theorem K4:∀ (mk:List (List Nat)) (ps:List Sh),gG (kdp mk ps)
 | m::mk,p::ps=>by rw [kdp];exact .cons (.tup (.cons (.str _) (.cons (X5 p) .nil))) (K4 mk ps)
 | [],_=>by simp only [kdp];exact .nil
 | _::_,[]=>by simp only [kdp];exact .nil
end
theorem Xe {K:Θ} {H:Hp} {v:V} {ds:List Γ} (h:Den K H v (.tuple ds)):∃ b vs,v = .ref b/\aJ K H b vs/\bN K H vs ds:=by
 cases h with
 | tup h1 h2=>exact ⟨_,_,rfl,h1,h2⟩
theorem XI {K:Θ} {H:Hp} {v:V} {x:Str} (h:Den K H v (.str x)):v = .str x:=by cases h;rfl
theorem W0 {K:Θ} {H:Hp} {v:V} {x:Int} (h:Den K H v (.int x)):v = .int x:=by cases h;rfl
theorem YJ {K:Θ} {H:Hp} {vs:List V} {d:Γ} {ds:List Γ} (h:bN K H vs (d::ds)):∃ v r,vs=v::r/\Den K H v d/\bN K H r ds:=by
 cases h with
 | cons h1 h2=>exact ⟨_,_,rfl,h1,h2⟩
theorem XZ {K:Θ} {H:Hp} {vs:List V} (h:bN K H vs []):vs=[]:=by cases h;rfl
theorem Qr (sh:Sh):∃ ds,kd sh = .tuple ds:=by cases sh<;>exact ⟨_,by rw [kd]⟩
theorem K5 {K:Θ} {H:Hp}:∀ {ps:List Sh} {vs:List V},bN K H vs (bQ ps)->∃ bs:List Addr,vs=bs.map V.ref/\bs.length=ps.length/\∀ (i:Nat) b q,bs[i]?=some b->ps[i]?=some q->Den K H (.ref b) (kd q)
 | [],vs,h=>by
  rw [bQ] at h
  exact ⟨[],XZ h,rfl,λi b q h=>by simp at h⟩
 | p::ps,vs,h=>by
  rw [bQ] at h
  obtain ⟨v,r,rfl,h1,h2⟩:=YJ h;obtain ⟨bs,rfl,hl,hb⟩:=K5 h2;obtain ⟨ds,hd⟩:=Qr p;obtain ⟨b,_,rfl,_,_⟩:=Xe (by rw [hd] at h1;exact h1);refine ⟨b::bs,rfl,by simp [hl],λi b' q e1 e2=>?_⟩
  cases i with
  | zero =>
   have z1:b=b':=Δ e1;have z2:p=q:=Δ e2;subst z1 z2;exact h1
  | succ i=>exact hb i b' q (by simpa using e1) (by simpa using e2)
theorem VX {K:Θ} {H:Hp}:∀ {mk:List (List Nat)} {ps:List Sh} {vs:List V},mk.length=ps.length->bN K H vs (kdp mk ps)->∃ ts bs:List Addr,vs=ts.map V.ref/\ts.length=ps.length/\bs.length=ps.length/\(∀ (i:Nat) T m b,ts[i]?=some T->mk[i]?=some m->bs[i]?=some b->aJ K H T [.str (S m),.ref b])/\∀ (i:Nat) b q,bs[i]?=some b->ps[i]?=some q->Den K H (.ref b) (kd q)
 | [],[],vs,_,h=>by
  rw [show kdp [] []=[] by simp [kdp]] at h
  exact ⟨[],[],XZ h,rfl,rfl,λi T m b h=>by simp at h,λi b q h=>by simp at h⟩
 | m::mk,p::ps,vs,hl,h=>by
  rw [kdp] at h
  obtain ⟨v,r,rfl,h1,h2⟩:=YJ h;obtain ⟨ts,bs,rfl,l1,l2,hT,hb⟩:=VX (by simpa using hl) h2;obtain ⟨T,us,rfl,h3,h4⟩:=Xe h1;obtain ⟨u1,r1,rfl,h5,h6⟩:=YJ h4;obtain ⟨u2,r2,rfl,h7,h8⟩:=YJ h6;have:=XZ h8;subst this;have:=XI h5;subst this;obtain ⟨ds,hd⟩:=Qr p;obtain ⟨b,_,rfl,_,_⟩:=Xe (by rw [hd] at h7;exact h7);refine ⟨T::ts,b::bs,rfl,by simp [l1],by simp [l2],λi T' m' b' e1 e2 e3=>?_,λi b' q e1 e2=>?_⟩
  ·cases i with
   | zero =>
    have z1:T=T':=Δ e1;have z2:m=m':=Δ e2;have z3:b=b':=Δ e3;subst z1 z2 z3;exact h3
   | succ i=>exact hT i T' m' b' (by simpa using e1) (by simpa using e2) (by simpa using e3)
  ·cases i with
   | zero =>
    have z1:b=b':=Δ e1;have z2:p=q:=Δ e2;subst z1 z2;exact h7
   | succ i=>exact hb i b' q (by simpa using e1) (by simpa using e2)
 | [],_::_,_,hl,_=>by simp at hl
 | _::_,[],_,hl,_=>by simp at hl
theorem K6 {q:Sh}:∀ {ps:List Sh},q∈ps->(kd q).depth<=θ (bQ ps)
 | p::ps,h=>by
  rw [bQ];simp only [θ];rcases Ν.mp h with rfl | h
  ·omega
  ·have:=K6 h
   omega
theorem K7 {q:Sh}:∀ {mk:List (List Nat)} {ps:List Sh},mk.length=ps.length->q∈ps->(kd q).depth<=θ (kdp mk ps)
 | m::mk,p::ps,hl,h=>by
  rw [kdp];simp only [θ,aa];rcases Ν.mp h with rfl | h
  ·omega
  ·have:=K7 (mk:=mk) (by simpa using hl) h
   omega
 | [],_::_,hl,_=>by simp at hl
def XS:Sh->List Sh
 | .row ps=>ps
 | .pick _ ps=>ps
 | .many p=>[p]
 | .alike p _=>[p]
 | _=>[]
section
variable {src:List (Option Nat)} {te:TE} {σ:St} {H:Hp} {Q:VK}
theorem Qs {K:Θ} {tl:TE} {b:Addr} {xs:List V} (ps:List (V×V)) (ys:List V) (ha:∀ R:V->Hp->Prop,R (.ref b) H->tl σ H R) (hS:aJ K H b xs) (hp:∀ (i:Nat) x p,xs[i]?=some x->ps[i]?=some p->∃ T,x = .ref T/\aJ K H T [p.1,p.2]) (hl:ps.length=xs.length) (hl2:ys.length=xs.length) (hlen:xs.length<=100000)
  (step:∀ (i:Nat) p y H',ps[i]?=some p->ys[i]?=some y->Yk H H'->∀ R:VK,(∀ aG,Yk H' aG->R y aG)->te (some p.1::some p.2::Yy src σ) H' R)
  (fin:∀ D H',H D=none->Yk H H'->H' D=some (.lst ys)->Q (.ref D) H'):cW (none::none::src) (uL K tl) (Vn K 2 (XD (Yv 0) (XD (Yv 1) VD))) XF te σ H Q:=by
 refine ha _ ⟨b,rfl,⟨xs,hS⟩,λD hD=>?_⟩;have h6:100000<sizeLine:=by decide
 refine WR (Hq.imp λH' (e:Yk H H')=>e.tup hS) (λi zs σ' H'=>zs=ys.take i/\(∃ o o',σ'=o::o'::Yy src σ)/\Yk H H'/\H' D=some (.lst zs)) ⟨by simp,⟨none,none,rfl⟩,.aj hD _,Yb⟩ (λi zs σ' H' p=>⟨p.2.2.1,p.2.2.2⟩) (UJ K 0 1) ?_ ?_
 ·rintro i zs σ' H' x hx ⟨rfl,⟨o,o',rfl⟩,sm,hd⟩
  have hi:=(Η.mp hx).1;have hy:ys[i]?=some (ys[i]'(by omega)):=Ε _;have hpi:ps[i]?=some (ps[i]'(by omega)):=Ε _;obtain ⟨T,rfl,hT⟩:=hp i x _ hx hpi;refine ⟨T,_,rfl,sm.tup hT,rfl,_,_,rfl,_,_,rfl,rfl,?_⟩;refine step i _ _ H' hpi hy sm _ λaG s2=>⟨s2 _ _ hd,?_,(YT hy).symm,⟨_,_,rfl⟩,.cu hD (sm.trans s2) _,Yb⟩
  rw [aw];omega
 ·rintro zs σ' H' ⟨rfl,_,sm,hd⟩
  rw [<- hl2,bz] at hd
  exact fin D H' hD sm hd
theorem Ydo {K:Θ} {tl:TE} (G:Addr->List V->Hp->Prop) (ha:∀ R:V->Hp->Prop,(∀ b xs H1,G b xs H1->R (.ref b) H1)->tl σ H R)
  (hb:∀ b xs H1,G b xs H1->au K H1 b xs/\xs.length<=100000/\∃ I:Addr->Nat->List V->Hp->Prop,(∀ D,H1 D=none->I D 0 [] (upd H1 D (.lst [])))/\(∀ D i zs H',H1 D=none->I D i zs H'->zs.length=i/\H' D=some (.lst zs)/\au K H' b xs) /\
   (∀ D (i:Nat) x zs H',H1 D=none->xs[i]?=some x->I D i zs H'->∀ R:VK,(∀ y aG,aG D=some (.lst zs)->I D (i+1) (zs++[y]) (upd aG D (.lst (zs++[y])))->R y aG)->te (some x::Yy src σ) H' R) /\
   (∀ D zs H',H1 D=none->I D xs.length zs H'->Q (.ref D) H')):cW (none::src) (Wf K tl) (Yv 0) XF te σ H Q:=by
 refine ha _ λb xs H1 hG=>?_
 obtain ⟨hS,hlen,I,i0,dl,step,fin⟩:=hb b xs H1 hG;refine ⟨b,rfl,⟨xs,hS⟩,λD hD=>?_⟩;have h6:100000<sizeLine:=by decide
 refine WR XO (λi zs σ' H'=>(∃ o,σ'=o::Yy src σ)/\i<=xs.length/\I D i zs H') ⟨⟨none,rfl⟩,ν _,i0 D hD⟩ (λi zs σ' H' q=>⟨(dl _ _ _ _ hD q.2.2).2.2,(dl _ _ _ _ hD q.2.2).2.1⟩) (XQ 0) ?_ ?_
 ·rintro i zs σ' H' x hx ⟨⟨o,rfl⟩,_,hI⟩
  have hi:i<xs.length:=(Η.mp hx).1;have hl:=(dl _ _ _ _ hD hI).1
  show te (some x::Yy src σ) H' _
  exact step D i x zs H' hD hx hI _ λy aG hd hI'=>⟨hd,by omega,⟨_,rfl⟩,hi,hI'⟩
 ·rintro zs σ' H' ⟨_,_,hI⟩
  exact fin D zs H' hD hI
end
theorem Wn {K:Θ} {H:Hp} {a:Addr} {x:Str} {d:Γ} (h:Den K H (.ref a) (.tuple [.str x,d])):∃ v,aJ K H a [.str x,v]/\Den K H v d:=by
 obtain ⟨b,vs,e,h1,h2⟩:=Xe h;have:=V.ref.inj e;subst this;obtain ⟨u1,r1,rfl,h5,h6⟩:=YJ h2;obtain ⟨u2,r2,rfl,h7,h8⟩:=YJ h6;have:=XZ h8;subst this;have:=XI h5;subst this;exact ⟨u2,h1,h7⟩
theorem ug {K:Θ} {H:Hp} {a:Addr} {x:Str} {d:Γ} {i:Int} (h:Den K H (.ref a) (.tuple [.str x,d,.int i])):∃ v,aJ K H a [.str x,v,.int i]/\Den K H v d:=by
 obtain ⟨b,vs,e,h1,h2⟩:=Xe h;have:=V.ref.inj e;subst this;obtain ⟨u1,r1,rfl,h5,h6⟩:=YJ h2;obtain ⟨u2,r2,rfl,h7,h8⟩:=YJ h6;obtain ⟨u3,r3,rfl,h9,h10⟩:=YJ h8;have:=XZ h10;subst this;have:=XI h5;subst this;have:=W0 h9;subst this;exact ⟨u2,h1,h7⟩
theorem Uj {K:Θ} {H:Hp} {v:V} {sh:Sh} (h:Den K H v (kd sh)):∃ b,v = .ref b/\Den K H (.ref b) (kd sh):=by
 obtain ⟨ds,hd⟩:=Qr sh;have h':=h;rw [hd] at h'
 obtain ⟨b,_,rfl,_,_⟩:=Xe h';exact ⟨b,rfl,h⟩
theorem VY {q:Sh} {prs:aR} {sh:Sh} (hok:aH prs sh) (h:q∈XS sh):(kd q).depth<=(kd sh).depth:=by
 cases sh with
 | row ps =>
  have:=K6 (ps:=ps) h;rw [show kd (.row ps) = .tuple [.str "row",.tuple (bQ ps)] by rw [kd]];simp only [aa,θ];omega
 | pick mk ps =>
  rw [aH] at hok
  have:=K7 (ps:=ps) hok.1 h;rw [show kd (.pick mk ps) = .tuple [.str "pick",.tuple (kdp mk ps)] by rw [kd]];simp only [aa,θ];omega
 | many p =>
  cases Φ.mp h
  rw [show kd (.many q) = .tuple [.str "many",kd q] by rw [kd]];simp only [aa,θ];omega
 | alike p n =>
  cases Φ.mp h
  rw [show kd (.alike q n) = .tuple [.str "alike",kd q,.int n] by rw [kd]];simp only [aa,θ];omega
 | _=>cases h
theorem UE {K:Θ} {H:Hp} {a b:Addr} {prs:aR} {sh q:Sh} (hk:DK K H a (kd sh)) (hok:aH prs sh) (h:q∈XS sh) (hb:Den K H (.ref b) (kd q)):DK K H b (kd q):=⟨hb,X5 q,Τ (VY hok h) hk.dp⟩
theorem K8 {b:Addr} {p:Sh} {P:Addr->Sh->Prop} (h:p∈[p]->P b p):∀ (i:Nat) b' q,([b]:List Addr)[i]?=some b'->([p]:List Sh)[i]?=some q->P b' q
 | 0,_,_,h1,h2=>by
  cases Δ h1
  cases Δ h2
  exact h (.head _)
 | i+1,_,_,h1,_=>by simp at h1
def uh:Sh->Bool
 | .w _ _=>false
 | .t _=>false
 | .use _=>false
 | _=>true
inductive Bw (K:Θ) (vs:List V) (H:Hp) (Q:VK) (E_:XK):Prop
 | mk (prs:aR) (a:Addr) (sh:Sh) (h0:vs=[.ref a]) (h1:DK K H a (kd sh)) (h2:aH prs sh) (h3:uh sh=true) (h4:∀ D (bs:List Addr) H',Yk H H'->H D=none->H' D=some (.lst (bs.map V.ref))->bs.length=(XS sh).length->(∀ (i:Nat) b q,bs[i]?=some b->(XS sh)[i]?=some q->DK K H b (kd q))->Q (.ref D) H')
theorem YbJ  (R:g.Raw "parts_of" "parts_of" zc ["shape"]) (bx:g.mg "list"=none) (qF:g.oK "OF_ONE_PART" ([.str "many",.str "rising",.str "unlike"])):g.Fn (1) "parts_of" ["shape"] (Bw g.K):=by
 refine R.fn Jl (λvs H Q E h=>by obtain ⟨prs,a,sh,rfl,hk,hok,hki,q⟩:=h;rfl) λf_ cdv A outer s H vs Q E hr h=>?_
 obtain ⟨prs,a,sh,rfl,hk,hok,hki,q⟩:=h;refine ⟨_,(Yf (Yp (i:=1) Jl.nd rfl (.inl rfl) (Yr YD (pv 0) Yh)) (Yf (YF (Yq YL (pv 1) YO (Ys _)) (Yi (Yn (Qh bx YaM (Ya (Yr YD (pv 0) Yh) Yd)))) Yw) (Yf (YF (Yq YL (pv 1) YO (Ys _)) (Yi (Yn (Xn (src:=[none,none]) (N':=(["mark","part"]:List Str)) (g:=Vn g.K 2 (XD (Yv 0) (XD (Yv 1) VD))) (.own (.own .nil)) rfl (U7 (Yr YD (pv 0) Yh)) (λcl C s₀ H₀ fp pn=>(V0 (n:=2) rfl (XB (Yu (i:=0) (show ay (["mark","part"]:List Str) by decide +kernel) rfl (.inl rfl) (.inr rfl)) (XB (Yu (i:=1) (show ay (["mark","part"]:List Str) by decide +kernel) rfl (.inl rfl) (.inr rfl)) Vq)))) (λcl C s₀ H₀ fp pn=>Y5) (λcl C s₀ H₀ fp pn=>(pv 1)) (by intro x hx;simp at hx)))) Yw) (Yf (YF (uG (Yq YL (pv 1) YO (Ys _)) (U4 (Yq YdR (pv 1) (Eo qF (by rfl) (by rfl) (by decide)) rfl))).pt (Yi (Yn (Y0 (Ya (Yr YD (pv 0) Yh) Yd)))) Yw) (Yi W4))))),?_⟩;walk_at "rd"
 cases sh with
 | row ps =>
  have hd:=hk.den;rw [kd] at hd
  obtain ⟨v,hT,hv⟩:=Wn hd;obtain ⟨b,vs,rfl,hb,hvs⟩:=Xe hv;obtain ⟨bs,rfl,hl,hbs⟩:=K5 hvs;exact ⟨_,hT,_,Yo (j:=0) rfl,YC _ _,Wg rfl ⟨_,hT,_,Yo (j:=1) rfl,b,rfl,_,.inr hb,λl hl'=>q l bs _ (.aj hl' _) hl' Yb hl λi b' q' h1 h2=>UE hk hok (Ξ h2) (hbs i b' q' h1 h2)⟩⟩
 | pick mk ps =>
  have hd:=hk.den;have hok':=hok;rw [aH] at hok'
  rw [kd] at hd
  obtain ⟨v,hT,hv⟩:=Wn hd;obtain ⟨b,vs,rfl,hb,hvs⟩:=Xe hv;obtain ⟨ts,bs,rfl,hl1,hl2,hts,hbs⟩:=VX hok'.1 hvs;refine ⟨_,hT,_,Yo (j:=0) rfl,YC _ _,Xd (by decide +kernel) ⟨YC _ _,Wg rfl ?_⟩⟩;have hlz:((mk.zip bs).map λp=>(V.str (S p.1),V.ref p.2)).length=bs.length:=by rw [Β,List.length_zip];omega
  refine Qs (K:=g.K) (b:=b) (xs:=ts.map V.ref) ((mk.zip bs).map λp=>(V.str (S p.1),V.ref p.2)) (bs.map V.ref) (λR r=>by walk_at "rd";exact ⟨_,hT,_,Yo (j:=1) rfl,r⟩) hb ?_ (by rw [hlz,Β];omega) (by rw [Β,Β];omega) (by rw [Β];omega) ?_ ?_
  ·intro i x p hx hp
   rw [Λ] at hx hp
   obtain ⟨T,hT',rfl⟩:=ε.mp hx;obtain ⟨⟨m,b'⟩,hz,rfl⟩:=ε.mp hp;rw [db] at hz
   exact ⟨T,rfl,hts i T m b' hT' hz.1 hz.2⟩
  ·intro i p y H' hp hy sm R r
   rw [Λ] at hp hy
   obtain ⟨⟨m,b'⟩,hz,rfl⟩:=ε.mp hp;rw [db] at hz
   rw [hz.2] at hy
   have:V.ref b'=y:=Δ hy;subst this;walk_at "rd";exact r H' (.refl _)
  ·intro D H' hD sm hd'
   exact q D bs H' sm hD hd' hl2 λi b' q' h1 h2=>UE hk hok (Ξ h2) (hbs i b' q' h1 h2)
 | many p =>
  have hd:=hk.den;rw [kd] at hd
  obtain ⟨v,hT,hv⟩:=Wn hd;obtain ⟨b,rfl,hv⟩:=Uj hv;refine ⟨_,hT,_,Yo (j:=0) rfl,YC _ _,Xd (by decide +kernel) ⟨YC _ _,Xd (by decide +kernel) ⟨YC _ _,Xd (by decide +kernel) λc hc=>⟨_,.inr hc,rfl,rfl,?_⟩⟩⟩⟩;rw [if_pos (show inV (.str "many") _=true by decide +kernel)];exact ⟨_,hT,_,Yo (j:=1) rfl,few (by decide),λl hl'=>q l [b] _ (.aj hl' _) hl' Yb rfl (K8 λhm=>UE hk hok hm hv)⟩
 | alike p n =>
  have hd:=hk.den;rw [kd] at hd
  obtain ⟨v,hT,hv⟩:=ug hd;obtain ⟨b,rfl,hv⟩:=Uj hv;exact ⟨_,hT,_,Yo (j:=0) rfl,YC _ _,Xd (by decide +kernel) ⟨YC _ _,Xd (by decide +kernel) ⟨YC _ _,Wg rfl ⟨_,hT,_,Yo (j:=1) rfl,few (by decide),λl hl'=>q l [b] _ (.aj hl' _) hl' Yb rfl (K8 λhm=>UE hk hok hm hv)⟩⟩⟩⟩
 | _=>cases hki
def t0 (U:Addr->Prop):Sw:=⟨λ_=>0,λ_ _=>0,U⟩
structure BI (C:Cs) (w:Wo) (U O:Addr->Prop) (H:Hp):Prop where
 at_:∀ p sh,w.reg p=some sh->¬ O p->Wl C w (t0 U) H p sh
 op:∀ p,O p->∃ x dx c,w.reg p=some (.use x)/\Un w (t0 U) p/\(∀ s,s<=45->sm (cnt w.bk (.use x) s))/\H p=some (.ins C.use dx (mf c (fU .non)))/\w.D c=some (p,0)/\H c=some (.lst [])
 al:∀ b,U b->H b≠none
 ow:∀ b x,w.D b=some x->U b
 oo:∀ b q i,w.D b=some (q,i)->U q
 inj:∀ b b' x,w.D b=some x->w.D b'=some x->b=b'
structure WG (w w':Wo) (U U':Addr->Prop) (H:Hp):Prop where
 bk:w'.bk=w.bk
 M:w'.M=w.M
 reg:∀ p sh,w.reg p=some sh->w'.reg p=some sh
 D:∀ b,U b->w'.D b=w.D b
 u1:∀ b,U b->U' b
 u2:∀ b,U' b->U b\/H b=none
theorem WG.refl (w:Wo) (U:Addr->Prop) (H:Hp):WG w w U U H:=⟨rfl,rfl,λ_ _ h=>h,λ_ _=>rfl,λ_ h=>h,λ_ h => .inl h⟩
theorem WG.trans {w w1 w2:Wo} {U U1 U2:Addr->Prop} {H H1:Hp} (a:WG w w1 U U1 H) (b:WG w1 w2 U1 U2 H1) (h:∀ x,H x≠none->H1 x≠none):WG w w2 U U2 H :=
 ⟨b.bk.trans a.bk,b.M.trans a.M,λp sh e=>b.reg p sh (a.reg p sh e),λx e=>(b.D x (a.u1 x e)).trans (a.D x e),λx e=>b.u1 x (a.u1 x e),λx e=>by
  rcases b.u2 x e with e | e
  ·exact a.u2 x e
  ·cases c:H x with
   | none=>exact .inr rfl
   | some o=>exact absurd e (h x (by rw [c];intro z;cases z))⟩
theorem WM.grow {w w':Wo} {U U':Addr->Prop} {H:Hp} (G:WG w w' U U' H) {as:List Addr} {ps:List Sh} (h:WM w.reg as ps):WM w'.reg as ps:=⟨h.1,λi a p h1 h2=>G.reg _ _ (h.2 i a p h1 h2)⟩
theorem WM.toM {w:Wo} {U:Addr->Prop} {p:Addr} {as:List Addr} {ps:List Sh} (h:WM w.reg as ps):gn w (t0 U) p as ps:=⟨h.1,h.2,λ_ _ _=>Κ _⟩
theorem WM.toC {w:Wo} {U:Addr->Prop} {p:Addr} {as:List Addr} {ps:List Sh} (h:WM w.reg as ps):gQ w (t0 U) p as ps:=⟨h.1,h.2,λ_ _=>Κ _⟩
theorem gn.grow {w w':Wo} {U U':Addr->Prop} {H:Hp} {p:Addr} (G:WG w w' U U' H) {as:List Addr} {ps:List Sh} (h:gn w (t0 U) p as ps):gn w' (t0 U') p as ps:=⟨h.1,λi a p h1 h2=>G.reg _ _ (h.2 i a p h1 h2),λ_ _ _=>Κ _⟩
theorem gQ.grow {w w':Wo} {U U':Addr->Prop} {H:Hp} {p:Addr} (G:WG w w' U U' H) {as:List Addr} {ps:List Sh} (h:gQ w (t0 U) p as ps):gQ w' (t0 U') p as ps:=⟨h.1,λi a p h1 h2=>G.reg _ _ (h.2 i a p h1 h2),λ_ _=>Κ _⟩
theorem One.grow {w w':Wo} {U U':Addr->Prop} {H0:Hp} {p:Addr} {sh q:Sh} {F:Addr->List (Str×V)} {fs:List (Str×V)} (G:WG w w' U U' H0) (h:One w (t0 U) p sh q F fs):One w' (t0 U') p sh q F fs:=by
 obtain ⟨a,h1,h2,h3⟩:=h;exact ⟨a,h1,G.reg _ _ h2,h3⟩
theorem Sub.grow {C:Cs} {w w':Wo} {U U':Addr->Prop} {H H' H0:Hp} {p:Addr} (G:WG w w' U U' H0) (ow:∀ b x,w.D b=some x->U b) (hk:∀ b o,U b->H b=some o->H' b=some o):∀ {sh:Sh} {fs:List (Str×V)},Sub C w (t0 U) H p sh fs->Sub C w' (t0 U') H' p sh fs
 | .w lo span,fs,h=>h
 | .t sg,fs,h=>h
 | .many q,fs,h=>One.grow G h
 | .alike q n,fs,h=>⟨One.grow G h.1,h.2⟩
 | .row ps,fs,h=>by
  obtain ⟨P,T,dt,L,as,ws,h1,h2,h3,h4,h5,h6,h7,h8,h9,h10,h11,h12⟩:=h;have un:∀ {b:Addr},Un w (t0 U) b->Un w' (t0 U') b:=λz=>⟨(G.D _ z.2).trans z.1,G.u1 _ z.2⟩
  refine ⟨P,T,dt,L,as,ws,h1,un h2,un h3,un h4,hk _ _ h2.2 h5,h6.grow G,h7,hk _ _ h3.2 h8,hk _ _ h4.2 h9,h10,λi x hx=>?_,by rw [G.bk];exact h12⟩;obtain ⟨k1,k2,k3,k4⟩:=h11 i x hx;exact ⟨(G.D _ (ow _ _ k1)).trans k1,k2,k3,by rw [G.bk];exact hk _ _ (ow _ _ k1) k4⟩
 | .pick mk ps,fs,h=>by
  obtain ⟨M,P,as,h1,h2,h3,h4,h5,h6,h7⟩:=h;have un:∀ {b:Addr},Un w (t0 U) b->Un w' (t0 U') b:=λz=>⟨(G.D _ z.2).trans z.1,G.u1 _ z.2⟩
  exact ⟨M,P,as,h1,un h2,un h3,hk _ _ h2.2 h4,hk _ _ h3.2 h5,h6.grow G,h7⟩
 | .use x,fs,h=>by
  show One w' (t0 U') p (.use x) (w'.bk x) _ fs
  rw [G.bk];exact One.grow G h
theorem Wl.grow {C:Cs} {w w':Wo} {U U':Addr->Prop} {H H' H0:Hp} {p:Addr} {sh:Sh} (G:WG w w' U U' H0) (ow:∀ b x,w.D b=some x->U b) (hk:∀ b o,U b->H b=some o->H' b=some o) (h:Wl C w (t0 U) H p sh):Wl C w' (t0 U') H' p sh:=by
 obtain ⟨dx,c,fs,h1,h2,h3,h4,h5,h6,h7,h8⟩:=h;exact ⟨dx,c,fs,⟨(G.D _ h1.2).trans h1.1,G.u1 _ h1.2⟩,by rw [G.M];exact h2,by rw [G.bk];exact h3,h4,hk _ _ h1.2 h5,(G.D _ (ow _ _ h6)).trans h6,by rw [G.bk];exact hk _ _ (ow _ _ h6) h7,h8.grow G ow hk⟩
theorem BI.keep {C:Cs} {w:Wo} {U O:Addr->Prop} {H H':Hp} (B:BI C w U O H) (hk:∀ b o,U b->H b=some o->H' b=some o):BI C w U O H':=by
 refine ⟨λp sh hr ho=>(B.at_ p sh hr ho).grow (.refl w U H) B.ow hk,λp hp=>?_,λb hb=>?_,B.ow,B.oo,B.inj⟩
 ·obtain ⟨x,dx,c,h1,h2,h3,h4,h5,h6⟩:=B.op p hp
  exact ⟨x,dx,c,h1,h2,h3,hk _ _ h2.2 h4,h5,hk _ _ (B.ow _ _ h5) h6⟩
 ·cases e:H b with
  | none=>exact absurd e (B.al b hb)
  | some o=>rw [hk b o hb e];intro z;cases z
def Wo.add (w:Wo) (p:Addr) (sh:Sh) (os:List Addr):Wo:={ w with reg:=λq=>if q=p then some sh else w.reg q,D:=λb=>if b∈os then some (p,os.idxOf b) else w.D b }
def Ua (U:Addr->Prop) (os ss:List Addr):Addr->Prop:=λb=>U b\/b∈os\/b∈ss
theorem BI.RZ {C:Cs} {w:Wo} {U O:Addr->Prop} {H:Hp} (B:BI C w U O H) {p:Addr} {sh:Sh} (h:w.reg p=some sh):U p:=by
 by_cases o:O p
 ·obtain ⟨x,dx,c,h1,h2,_⟩:=B.op p o
  exact h2.2
 ·obtain ⟨dx,c,fs,h1,_⟩:=B.at_ p sh h o
  exact h1.2
theorem YgJ {os:List Addr} {a b:Addr} (ha:a∈os) (hb:b∈os) (h:os.idxOf a=os.idxOf b):a=b:=by
 have h1:=List.getElem_idxOf (em ha);have h2:=List.getElem_idxOf (em hb);have:os[os.idxOf a]'(em ha)=os[os.idxOf b]'(em hb):=by congr 1
 rw [h1,h2] at this
 exact this
theorem K9:∀ {os:List Addr} {i:Nat} {a:Addr},os.Nodup->os[i]?=some a->os.idxOf a=i
 | b::os,0,a,hn,h=>by
  have:b=a:=Δ h;subst this;exact List.idxOf_cons_self
 | b::os,i+1,a,hn,h=>by
  have h':os[i]?=some a:=by simpa using h
  have hne:b≠a:=λz=>by
   rw [aI] at hn
   exact hn.1 (by rw [z];exact Ξ h')
  have ih:=K9 (aI.mp hn).2 h';rw [List.idxOf_cons,ih];have e:(b==a)=false:=by simpa using hne
  rw [e];rfl
structure New (H H':Hp) (U:Addr->Prop) (p:Addr) (os ss:List Addr):Prop where
 nu:∀ b,b∈os\/b∈ss->¬ U b
 inn:p∈ss
 nd:os.Nodup
 ap:∀ b∈os,b∉ss
 keep:∀ b o,U b->H b=some o->H' b=some o
 there:∀ b,b∈os\/b∈ss->H' b≠none
theorem New.wg {C:Cs} {w:Wo} {U O:Addr->Prop} {H H' H0:Hp} {p:Addr} {os ss:List Addr} (N:New H H' U p os ss) (B:BI C w U O H) (sh:Sh) (h0:∀ b,b∈os\/b∈ss->H0 b=none):WG w (w.add p sh os) U (Ua U os ss) H0:=by
 refine ⟨rfl,rfl,λq s e=>?_,λb hb=>?_,λb h => .inl h,λb h=>?_⟩
 ·show (if q=p then some sh else w.reg q)=some s
  rw [if_neg λz=>?_]
  ·exact e
  ·subst z
   exact N.nu _ (.inr N.inn) (B.RZ e)
 ·show (if b∈os then _ else w.D b)=w.D b
  rw [if_neg λz=>N.nu _ (.inl z) hb]
 ·rcases h with h | h
  ·exact .inl h
  ·exact .inr (h0 b h)
theorem New.un {C:Cs} {w:Wo} {U O:Addr->Prop} {H H':Hp} {p:Addr} {os ss:List Addr} (N:New H H' U p os ss) (B:BI C w U O H) (sh:Sh) {b:Addr} (hb:b∈ss):Un (w.add p sh os) (t0 (Ua U os ss)) b:=by
 refine ⟨?_,.inr (.inr hb)⟩
 show (if b∈os then _ else w.D b)=none
 rw [if_neg λz=>N.ap b z hb]
 cases e:w.D b with
 | none=>rfl
 | some x=>exact absurd (B.ow b x e) (N.nu b (.inr hb))
theorem New.dat {w:Wo} {U:Addr->Prop} {H H':Hp} {p:Addr} {os ss:List Addr} (N:New H H' U p os ss) (sh:Sh) {i:Nat} {b:Addr} (hb:os[i]?=some b):(w.add p sh os).D b=some (p,i):=by
 show (if b∈os then some (p,os.idxOf b) else w.D b)=_
 rw [if_pos (Ξ hb),K9 N.nd hb]
theorem New.bi {C:Cs} {w:Wo} {U O O':Addr->Prop} {H H':Hp} {p:Addr} {os ss:List Addr} {sh:Sh} (N:New H H' U p os ss) (B:BI C w U O H) (h1:∀ q,q≠p->(O' q↔O q)) (hm:¬ O' p->Wl C (w.add p sh os) (t0 (Ua U os ss)) H' p sh)
  (ho:O' p->∃ x dx c,sh = .use x/\Un (w.add p sh os) (t0 (Ua U os ss)) p/\(∀ s,s<=45->sm (cnt w.bk (.use x) s))/\H' p=some (.ins C.use dx (mf c (fU .non)))/\(w.add p sh os).D c=some (p,0)/\H' c=some (.lst [])):BI C (w.add p sh os) (Ua U os ss) O' H':=by
 have G:=N.wg (H0:=λ_=>none) B sh λ_ _=>rfl
 have hpr:∀ {q:Addr} {s:Sh},(w.add p sh os).reg q=some s->q≠p->w.reg q=some s:=λ{q s} e n=>by
  have:(if q=p then some sh else w.reg q)=some s:=e
  rwa [if_neg n] at this
 refine ⟨λq s hq ho'=>?_,λq hq=>?_,λb hb=>?_,λb x e=>?_,λb q i e=>?_,λb b' x e e'=>?_⟩
 ·by_cases c:q=p
  ·subst c
   have:(if q=q then some sh else w.reg q)=some s:=hq;rw [if_pos rfl] at this
   have:=Δ this;subst this;exact hm ho'
  ·exact (B.at_ q s (hpr hq c) λz=>ho' ((h1 q c).mpr z)).grow G B.ow N.keep
 ·by_cases c:q=p
  ·subst c
   obtain ⟨x,dx,c,e1,e2,e3,e4,e5,e6⟩:=ho hq;subst e1;exact ⟨x,dx,c,if_pos rfl,e2,e3,e4,e5,e6⟩
  ·obtain ⟨x,dx,c',e1,e2,e3,e4,e5,e6⟩:=B.op q ((h1 q c).mp hq)
   exact ⟨x,dx,c',G.reg _ _ e1,⟨(G.D _ e2.2).trans e2.1,G.u1 _ e2.2⟩,e3,N.keep _ _ e2.2 e4,(G.D _ (B.ow _ _ e5)).trans e5,N.keep _ _ (B.ow _ _ e5) e6⟩
 ·rcases hb with hb | hb
  ·cases e:H b with
   | none=>exact absurd e (B.al b hb)
   | some o=>rw [N.keep b o hb e];intro z;cases z
  ·exact N.there b hb
 ·have e:(if b∈os then some (p,os.idxOf b) else w.D b)=some x:=e
  by_cases c:b∈os
  ·exact .inr (.inl c)
  ·rw [if_neg c] at e
   exact .inl (B.ow b x e)
 ·have e:(if b∈os then some (p,os.idxOf b) else w.D b)=some (q,i):=e
  by_cases c:b∈os
  ·rw [if_pos c] at e
   injection e with e
   injection e with e _
   rw [<- e];exact .inr (.inr N.inn)
  ·rw [if_neg c] at e
   exact .inl (B.oo b q i e)
 ·have e:(if b∈os then some (p,os.idxOf b) else w.D b)=some x:=e
  have e':(if b'∈os then some (p,os.idxOf b') else w.D b')=some x:=e';have nop:∀ {y:Addr} {i:Nat},w.D y=some (p,i)->False:=λz=>N.nu _ (.inr N.inn) (B.oo _ _ _ z)
  by_cases c:b∈os
  ·rw [if_pos c] at e
   by_cases c':b'∈os
   ·rw [if_pos c'] at e'
    rw [<- e'] at e
    injection e with e
    injection e with _ e
    exact YgJ c c' e
   ·rw [if_neg c',<- e] at e'
    exact (nop e').elim
  ·rw [if_neg c] at e
   by_cases c':b'∈os
   ·rw [if_pos c'] at e'
    rw [<- e'] at e
    exact (nop e).elim
   ·rw [if_neg c'] at e'
    exact B.inj b b' x e e'
theorem BI.wi {C:Cs} {w:Wo} {U O:Addr->Prop} {H:Hp} (B:BI C w U O H) (h:∀ p,¬ O p):WI C w (t0 U) H:=⟨λp sh e=>B.at_ p sh e (h p),B.al,B.ow,B.inj⟩
theorem Xw {fs:List (Str×V)} (h:fs.length<=3):fs.length<1000:=by omega
def isC (C:Cs) (c:Addr):Prop:=c=C.w\/c=C.t\/c=C.row\/c=C.pick\/c=C.many\/c=C.alike\/c=C.use
inductive jQ (C:Cs) (vs:List V) (H:Hp) (Q:VK) (E_:XK):Prop
 | mk (p dx cl:Addr) (h0:vs=[.ref p]) (h1:isC C cl) (h2:H p=some (.ins cl dx [])) (h3:∀ c,H c=none->Q .non (upd (upd H c (.lst [])) p (.ins cl dx [("counts",.ref c)])))
theorem Z5o {Z1 Z3 Z2 Z5 Z6 Z4 Z7 Z0:Addr} (R:g.lu "Maker" "__init__" "Maker.__init__" Ba ["self"]) (Za:Cls g.K Z1) (Zw:Yg g.K Z1 "counts") (Zx:Yg g.K Z1 "part") (Zk:Yg g.K Z1 "times") (Zc:Cls g.K Z3) (Zq:Yg g.K Z3 "counts") (Zt:Yg g.K Z3 "part") (Zb:Cls g.K Z2) (Zp:Yg g.K Z2 "counts") (Zs:Yg g.K Z2 "marks") (Zm:Yg g.K Z2 "parts") (Zf:Cls g.K Z5) (ZC:Yg g.K Z5 "counts") (ZE:Yg g.K Z5 "parts") (ZB:Yg g.K Z5 "table") (Zd:Cls g.K Z4) (Zz:Yg g.K Z4 "counts") (Zr:Yg g.K Z4 "signs") (Ze:Cls g.K Z7) (Zv:Yg g.K Z7 "counts") (Zn:Yg g.K Z7 "named") (Z8:Cls g.K Z0) (Zh:Yg g.K Z0 "counts") (ZD:Yg g.K Z0 "low") (Zy:Yg g.K Z0 "span"):g.Cf (1) "Maker" "__init__" ["self"] (jQ (Cs.mk Z0 Z4 Z5 Z6 Z2 Z3 Z1 Z7)):=by
 refine R.cf Z5m (λvs H Q E h=>by obtain ⟨p,dx,cl,rfl,hC,hp,q⟩:=h;rfl) λf_ cdv A outer s H vs Q E hr h=>?_
 obtain ⟨p,dx,cl,rfl,hC,hp,q⟩:=h;refine ⟨_,(Yi (Xa (pv 0) (Y0 Yd) rfl)),?_⟩;walk_at "rd";refine ⟨few (by decide),λc hc=>⟨cl,dx,[],by rw [Ye (Yl hp hc)];exact hp,?_,?_,by decide,q c hc⟩⟩
 ·rcases hC with rfl | rfl | rfl | rfl | rfl | rfl | rfl<;>assumption
 ·rcases hC with rfl | rfl | rfl | rfl | rfl | rfl | rfl<;>assumption
theorem n1 {a b:Str} (h:(a==b)=false):¬ a=b:=λz=>by rw [z] at h;simp at h
theorem UY {f:Str} {v:V} {c:Addr} (h:¬ (("counts":Str)=f)):YW f v [("counts",.ref c)]=mf c [(f,v)]:=by simp only [YW,if_neg h];rfl
theorem vH {f f':Str} {v v':V} {c:Addr} (h:¬ (("counts":Str)=f)) (h2:¬ f'=f):YW f v (mf c [(f',v')])=mf c [(f',v'),(f,v)]:=by
 show YW f v [(("counts":Str),V.ref c),(f',v')]=_
 simp only [YW,if_neg h,if_neg h2];rfl
inductive La (C:Cs) (vs:List V) (H:Hp) (Q:VK) (E_:XK):Prop
 | mk (p dx:Addr) (lo:Int) (span:Nat) (h0:vs=[.ref p,.int lo,.int (lo+span)]) (h1:H p=some (.ins C.w dx [])) (h2:∀ c H',H c=none->SameBut p H H'->H' p=some (.ins C.w dx (mf c (fW lo span)))->H' c=some (.lst [])->Q .non H')
theorem Z3F {k:Nat} {Z1 Z3 Z2 Z5 Z6 Z4 Z7 Z0:Addr} (R:g.bH "WholeMaker" Z0 "WholeMaker.__init__" zW ["self","low","high"]) (ZK:g.Cf k "Maker" "__init__" ["self"] (jQ (Cs.mk Z0 Z4 Z5 Z6 Z2 Z3 Z1 Z7))) (Z8:Cls g.K Z0) (Zh:Yg g.K Z0 "counts") (ZD:Yg g.K Z0 "low") (Zy:Yg g.K Z0 "span"):g.Ma (k+1) "WholeMaker" Z0 ["self","low","high"] (La (Cs.mk Z0 Z4 Z5 Z6 Z2 Z3 Z1 Z7)):=by
 refine R.ma Z3w (λvs H Q E h=>by obtain ⟨p,dx,lo,span,rfl,hp,q⟩:=h;rfl) λf_ cdv A outer s H vs Q E hr h=>?_
 obtain ⟨p,dx,lo,span,rfl,hp,q⟩:=h;refine ⟨_,(Yf (Y9 (VI ZK hr (Ya (pv 0) Yd))) (Yf (Xa (pv 0) (pv 1) rfl) (Yi (Xa (pv 0) (Ym Y3 (pv 2) (pv 1)) rfl)))),?_⟩;walk_at "rd";refine ⟨p,dx,_,rfl,.inl rfl,hp,λc hc=>?_⟩;have hne:p≠c:=Yl hp hc;refine ⟨_,dx,_,Yb,Z8,ZD,Xw (show 1<=3 by decide),_,dx,_,Yb,Z8,Zy,Xw (Τ (Xp _ _ _) (show 2<=3 by decide)),?_⟩;refine q c _ hc (λx o hx h=>?_) ?_ ?_
 ·rw [Ye hx,Ye hx,Ye hx,Ye (Yl h hc)];exact h
 ·rw [Yb,show lo+(span:Int) - lo=span by omega,UY (n1 (by decide +kernel)),vH (n1 (by decide +kernel)) (n1 (by decide +kernel))];rfl
 ·rw [Ye (ai hne),Ye (ai hne),Ye (ai hne),Yb]
inductive Lb (C:Cs) (vs:List V) (H:Hp) (Q:VK) (E_:XK):Prop
 | mk (p dx:Addr) (sg:List Nat) (h0:vs=[.ref p,.str (S sg)]) (h1:H p=some (.ins C.t dx [])) (h2:∀ c H',H c=none->SameBut p H H'->H' p=some (.ins C.t dx (mf c (fT sg)))->H' c=some (.lst [])->Q .non H')
theorem Z3T {k:Nat} {Z1 Z3 Z2 Z5 Z6 Z4 Z7 Z0:Addr} (R:g.bH "TextMaker" Z4 "TextMaker.__init__" zZ ["self","signs"]) (ZK:g.Cf k "Maker" "__init__" ["self"] (jQ (Cs.mk Z0 Z4 Z5 Z6 Z2 Z3 Z1 Z7))) (Zd:Cls g.K Z4) (Zz:Yg g.K Z4 "counts") (Zr:Yg g.K Z4 "signs"):g.Ma (k+1) "TextMaker" Z4 ["self","signs"] (Lb (Cs.mk Z0 Z4 Z5 Z6 Z2 Z3 Z1 Z7)):=by
 refine R.ma Z3M (λvs H Q E h=>by obtain ⟨p,dx,sg,rfl,hp,q⟩:=h;rfl) λf_ cdv A outer s H vs Q E hr h=>?_
 obtain ⟨p,dx,sg,rfl,hp,q⟩:=h;refine ⟨_,(Yf (Y9 (VI ZK hr (Ya (pv 0) Yd))) (Yi (Xa (pv 0) (pv 1) rfl))),?_⟩;walk_at "rd";refine ⟨p,dx,_,rfl,.inr (.inl rfl),hp,λc hc=>?_⟩;have hne:p≠c:=Yl hp hc;refine ⟨_,dx,_,Yb,Zd,Zr,Xw (show 1<=3 by decide),?_⟩;refine q c _ hc (λx o hx h=>?_) ?_ ?_
 ·rw [Ye hx,Ye hx,Ye (Yl h hc)];exact h
 ·rw [Yb,UY (n1 (by decide +kernel))];rfl
 ·rw [Ye (ai hne),Ye (ai hne),Yb]
inductive Ld (C:Cs) (vs:List V) (H:Hp) (Q:VK) (E_:XK):Prop
 | mk (p dx a:Addr) (h0:vs=[.ref p,.ref a]) (h1:H p=some (.ins C.many dx [])) (h2:∀ c H',H c=none->SameBut p H H'->H' p=some (.ins C.many dx (mf c (fM a)))->H' c=some (.lst [])->Q .non H')
theorem Z3U {k:Nat} {Z1 Z3 Z2 Z5 Z6 Z4 Z7 Z0:Addr} (R:g.bH "ManyMaker" Z3 "ManyMaker.__init__" Ak ["self","part"]) (ZK:g.Cf k "Maker" "__init__" ["self"] (jQ (Cs.mk Z0 Z4 Z5 Z6 Z2 Z3 Z1 Z7))) (Zc:Cls g.K Z3) (Zq:Yg g.K Z3 "counts") (Zt:Yg g.K Z3 "part"):g.Ma (k+1) "ManyMaker" Z3 ["self","part"] (Ld (Cs.mk Z0 Z4 Z5 Z6 Z2 Z3 Z1 Z7)):=by
 refine R.ma Z3Q (λvs H Q E h=>by obtain ⟨p,dx,a,rfl,hp,q⟩:=h;rfl) λf_ cdv A outer s H vs Q E hr h=>?_
 obtain ⟨p,dx,a,rfl,hp,q⟩:=h;refine ⟨_,(Yf (Y9 (VI ZK hr (Ya (pv 0) Yd))) (Yi (Xa (pv 0) (pv 1) rfl))),?_⟩;walk_at "rd";refine ⟨p,dx,_,rfl,.inr (.inr (.inr (.inr (.inl rfl)))),hp,λc hc=>?_⟩;have hne:p≠c:=Yl hp hc;refine ⟨_,dx,_,Yb,Zc,Zt,Xw (show 1<=3 by decide),?_⟩;refine q c _ hc (λx o hx h=>?_) ?_ ?_
 ·rw [Ye hx,Ye hx,Ye (Yl h hc)];exact h
 ·rw [Yb,UY (n1 (by decide +kernel))];rfl
 ·rw [Ye (ai hne),Ye (ai hne),Yb]
inductive Le (C:Cs) (vs:List V) (H:Hp) (Q:VK) (E_:XK):Prop
 | mk (p dx a:Addr) (n:Nat) (h0:vs=[.ref p,.ref a,.int n]) (h1:H p=some (.ins C.alike dx [])) (h2:∀ c H',H c=none->SameBut p H H'->H' p=some (.ins C.alike dx (mf c (fA n a)))->H' c=some (.lst [])->Q .non H')
theorem Z3G {k:Nat} {Z1 Z3 Z2 Z5 Z6 Z4 Z7 Z0:Addr} (R:g.bH "AlikeMaker" Z1 "AlikeMaker.__init__" Aq ["self","part","times"]) (ZK:g.Cf k "Maker" "__init__" ["self"] (jQ (Cs.mk Z0 Z4 Z5 Z6 Z2 Z3 Z1 Z7))) (Za:Cls g.K Z1) (Zw:Yg g.K Z1 "counts") (Zx:Yg g.K Z1 "part") (Zk:Yg g.K Z1 "times"):g.Ma (k+1) "AlikeMaker" Z1 ["self","part","times"] (Le (Cs.mk Z0 Z4 Z5 Z6 Z2 Z3 Z1 Z7)):=by
 refine R.ma Z3A (λvs H Q E h=>by obtain ⟨p,dx,a,n,rfl,hp,q⟩:=h;rfl) λf_ cdv A outer s H vs Q E hr h=>?_
 obtain ⟨p,dx,a,n,rfl,hp,q⟩:=h;refine ⟨_,(Yf (Y9 (VI ZK hr (Ya (pv 0) Yd))) (Yf (Xa (pv 0) (pv 1) rfl) (Yi (Xa (pv 0) (pv 2) rfl)))),?_⟩;walk_at "rd";refine ⟨p,dx,_,rfl,.inr (.inr (.inr (.inr (.inr (.inl rfl))))),hp,λc hc=>?_⟩;have hne:p≠c:=Yl hp hc;refine ⟨_,dx,_,Yb,Za,Zx,Xw (show 1<=3 by decide),_,dx,_,Yb,Za,Zk,Xw (Τ (Xp _ _ _) (show 2<=3 by decide)),?_⟩;refine q c _ hc (λx o hx h=>?_) ?_ ?_
 ·rw [Ye hx,Ye hx,Ye hx,Ye (Yl h hc)];exact h
 ·rw [Yb,UY (n1 (by decide +kernel)),vH (n1 (by decide +kernel)) (n1 (by decide +kernel))];rfl
 ·rw [Ye (ai hne),Ye (ai hne),Ye (ai hne),Yb]
inductive Lf (C:Cs) (vs:List V) (H:Hp) (Q:VK) (E_:XK):Prop
 | mk (p dx M P:Addr) (h0:vs=[.ref p,.ref M,.ref P]) (h1:H p=some (.ins C.pick dx [])) (h2:∀ c H',H c=none->SameBut p H H'->H' p=some (.ins C.pick dx (mf c (fP M P)))->H' c=some (.lst [])->Q .non H')
theorem Z3V {k:Nat} {Z1 Z3 Z2 Z5 Z6 Z4 Z7 Z0:Addr} (R:g.bH "PickMaker" Z2 "PickMaker.__init__" Ag ["self","marks","parts"]) (ZK:g.Cf k "Maker" "__init__" ["self"] (jQ (Cs.mk Z0 Z4 Z5 Z6 Z2 Z3 Z1 Z7))) (Zb:Cls g.K Z2) (Zp:Yg g.K Z2 "counts") (Zs:Yg g.K Z2 "marks") (Zm:Yg g.K Z2 "parts"):g.Ma (k+1) "PickMaker" Z2 ["self","marks","parts"] (Lf (Cs.mk Z0 Z4 Z5 Z6 Z2 Z3 Z1 Z7)):=by
 refine R.ma Z3O (λvs H Q E h=>by obtain ⟨p,dx,M,P,rfl,hp,q⟩:=h;rfl) λf_ cdv A outer s H vs Q E hr h=>?_
 obtain ⟨p,dx,M,P,rfl,hp,q⟩:=h;refine ⟨_,(Yf (Y9 (VI ZK hr (Ya (pv 0) Yd))) (Yf (Xa (pv 0) (pv 1) rfl) (Yi (Xa (pv 0) (pv 2) rfl)))),?_⟩;walk_at "rd";refine ⟨p,dx,_,rfl,.inr (.inr (.inr (.inl rfl))),hp,λc hc=>?_⟩;have hne:p≠c:=Yl hp hc;refine ⟨_,dx,_,Yb,Zb,Zs,Xw (show 1<=3 by decide),_,dx,_,Yb,Zb,Zm,Xw (Τ (Xp _ _ _) (show 2<=3 by decide)),?_⟩;refine q c _ hc (λx o hx h=>?_) ?_ ?_
 ·rw [Ye hx,Ye hx,Ye hx,Ye (Yl h hc)];exact h
 ·rw [Yb,UY (n1 (by decide +kernel)),vH (n1 (by decide +kernel)) (n1 (by decide +kernel))];rfl
 ·rw [Ye (ai hne),Ye (ai hne),Ye (ai hne),Yb]
inductive Lg (C:Cs) (vs:List V) (H:Hp) (Q:VK) (E_:XK):Prop
 | mk (p dx:Addr) (h0:vs=[.ref p]) (h1:H p=some (.ins C.use dx [])) (h2:∀ c H',H c=none->SameBut p H H'->H' p=some (.ins C.use dx (mf c (fU .non)))->H' c=some (.lst [])->Q .non H')
theorem Z4p {k:Nat} {Z1 Z3 Z2 Z5 Z6 Z4 Z7 Z0:Addr} (R:g.bH "UseMaker" Z7 "UseMaker.__init__" Aw ["self"]) (ZK:g.Cf k "Maker" "__init__" ["self"] (jQ (Cs.mk Z0 Z4 Z5 Z6 Z2 Z3 Z1 Z7))) (Ze:Cls g.K Z7) (Zv:Yg g.K Z7 "counts") (Zn:Yg g.K Z7 "named"):g.Ma (k+1) "UseMaker" Z7 ["self"] (Lg (Cs.mk Z0 Z4 Z5 Z6 Z2 Z3 Z1 Z7)):=by
 refine R.ma Z4h (λvs H Q E h=>by obtain ⟨p,dx,rfl,hp,q⟩:=h;rfl) λf_ cdv A outer s H vs Q E hr h=>?_
 obtain ⟨p,dx,rfl,hp,q⟩:=h;refine ⟨_,(Yf (Y9 (VI ZK hr (Ya (pv 0) Yd))) (Yi (Xa (pv 0) S9 rfl))),?_⟩;walk_at "rd";refine ⟨p,dx,_,rfl,.inr (.inr (.inr (.inr (.inr (.inr rfl))))),hp,λc hc=>?_⟩;have hne:p≠c:=Yl hp hc;refine ⟨_,dx,_,Yb,Ze,Zn,Xw (show 1<=3 by decide),?_⟩;refine q c _ hc (λx o hx h=>?_) ?_ ?_
 ·rw [Ye hx,Ye hx,Ye (Yl h hc)];exact h
 ·rw [Yb,UY (n1 (by decide +kernel))];rfl
 ·rw [Ye (ai hne),Ye (ai hne),Yb]
inductive Lh (C:Cs) (vs:List V) (H:Hp) (Q:VK) (E_:XK):Prop
 | mk (T dx P:Addr) (as:List Addr) (h0:vs=[.ref T,.ref P]) (h1:H T=some (.ins C.tab dx [])) (h2:H P=some (.lst (as.map V.ref))) (h3:as.length<=100) (h4:∀ L (ws:List Addr) H',H L=none->(∀ x∈ws,H x=none)->ws.Nodup->ws.length=as.length+1->SameBut T H H'->H' T=some (.ins C.tab dx (Wy P L))->H' L=some (.lst (ws.map V.ref))->(∀ x∈ws,H' x=some (.lst []))->Q .non H')
theorem Z4q {Z1 Z3 Z2 Z5 Z6 Z4 Z7 Z0:Addr} (R:g.bH "RowTable" Z6 "RowTable.__init__" z8 ["self","parts"]) (ao:g.mg "len"=none) (Zg:g.mg "range"=none) (Zj:Cls g.K Z6) (Zo:Yg g.K Z6 "parts") (Zi:Yg g.K Z6 "ways"):g.Ma (1) "RowTable" Z6 ["self","parts"] (Lh (Cs.mk Z0 Z4 Z5 Z6 Z2 Z3 Z1 Z7)):=by
 refine R.ma Z4e (λvs H Q E h=>by obtain ⟨T,dx,P,as,rfl,hT,hP,hl,q⟩:=h;rfl) λf_ cdv A outer s H vs Q E hr h=>?_
 obtain ⟨T,dx,P,as,rfl,hT,hP,hl,q⟩:=h;refine ⟨_,(Yf (Xa (pv 0) (pv 1) rfl) (Yi (Xa (pv 0) (Xn (src:=[none]) (N':=(["place"]:List Str)) (g:=Yv 0) (.own .nil) rfl (Y2 rfl Zg (Ya (Ym YZ (YU ao YM (Ya (pv 1) Yd)) Yh) Yd)) (λcl C s₀ H₀ fp pn=>(Yu (i:=0) (show ay (["place"]:List Str) by decide +kernel) rfl (.inl rfl) (.inr rfl))) (λcl C s₀ H₀ fp pn=>Y5) (λcl C s₀ H₀ fp pn=>(Y0 Yd)) (by intro x hx;simp at hx)) rfl))),?_⟩;walk_at "rd";have nTP:T≠P:=Y8 hT hP (by simp);refine ⟨_,dx,_,hT,Zj,Zo,by decide,?_⟩;obtain ⟨H1,hH1⟩:∃ H1,H1=upd H T (.ins Z6 dx (YW "parts" (.ref P) [])):=⟨_,rfl⟩;rw [<- hH1];have Bx:H1 T=some (.ins Z6 dx (YW "parts" (.ref P) [])):=by rw [hH1,Yb]
 have h1:∀ {b:Addr},b≠T->H1 b=H b:=λn=>by rw [hH1,Ye n]
 refine WU (n:=as.length+1) (λD i zs H'=>∃ ws:List Addr,zs=ws.map V.ref/\ws.length=i/\ws.Nodup/\(∀ x∈ws,H1 x=none/\x≠D/\H' x=some (.lst []))/\H' D=some (.lst zs)/\∀ b o,b≠D->H1 b=some o->H' b=some o) (λR r=>?_) (by omega) ?_ ?_ ?_ ?_
 ·walk_at "rd"
  refine ⟨_,.inl (au.of ((h1 (ai nTP)).trans hP)),?_⟩;rw [Β];exact r
 ·intro D hD
  exact ⟨[],rfl,rfl,.nil,λx hx=>(by cases hx),Yb,λb o hb e=>by rw [Ye hb];exact e⟩
 ·rintro D i zs H' ⟨ws,rfl,h2,_,_,h3,_⟩
  exact ⟨by rw [Β,h2],h3⟩
 ·rintro D i zs H' hD hi ⟨ws,rfl,hwl,hnd,hws,hd,fr⟩ R r
  walk_at "rd";refine ⟨few (by decide),λX gX=>?_⟩;have gK:X≠D:=ai (Yl hd gX);have sX:=Yk.aj gX (.lst []);have gX1:H1 X=none:=by
   cases e:H1 X with
   | none=>rfl
   | some o=>rw [fr X o gK e] at gX;cases gX
  refine r _ _ (sX _ _ hd) ⟨ws++[X],by rw [bc];rfl,by rw [Μ,hwl];rfl,?_,λx hx=>?_,Yb,λb o hb e=>by rw [Ye hb];exact sX _ _ (fr b o hb e)⟩
  ·rw [ij]
   refine ⟨hnd,by simp,λx hx y hy=>?_⟩;have:y=X:=by simpa using hy
   subst this;intro z;subst z;rw [(hws x hx).2.2] at gX
   cases gX
  ·rcases a6.mp hx with hx | hx
   ·obtain ⟨k1,k2,k3⟩:=hws x hx
    exact ⟨k1,k2,by rw [Ye k2];exact sX _ _ k3⟩
   ·have:x=X:=by simpa using hx
    subst this;exact ⟨gX1,gK,by rw [Ye gK,Yb]⟩
 ·rintro L zs H' hL ⟨ws,rfl,hwl,hnd,hws,hd,fr⟩
  have Li:L≠T:=ai (Yl Bx hL);have nf:∀ {b:Addr},H1 b=none->H b=none:=λ{b} e=>by
   by_cases c:b=T
   ·subst c;rw [Bx] at e;cases e
   ·rw [<- h1 c];exact e
  have Lj:=fr T _ (ai Li) Bx;refine ⟨_,dx,_,Lj,Zj,Zi,Xw (show 1<=3 by decide),?_⟩;have nw:∀ x∈ws,x≠T:=λx hx=>Y8 (hws x hx).2.2 Lj (by simp)
  refine q L ws _ (nf hL) (λx hx=>nf (hws x hx).1) hnd hwl (λb o hb e=>?_) ?_ (by rw [Ye Li];exact hd) (λx hx=>by rw [Ye (nw x hx)];exact (hws x hx).2.2)
  ·rw [Ye hb]
   exact fr b o (Yl ((h1 hb).trans e) hL) ((h1 hb).trans e)
  ·rw [Yb]
   refine congrArg some (congrArg (HO.ins _ _) ?_)
   show YW "ways" (.ref L) [(("parts":Str),V.ref P)]=Wy P L
   simp only [YW,if_neg (n1 (a:=("parts":Str)) (b:=("ways":Str)) (by decide +kernel))];rfl
inductive Lk (C:Cs) (vs:List V) (H:Hp) (Q:VK) (E_:XK):Prop
 | mk (p dx P:Addr) (as:List Addr) (h0:vs=[.ref p,.ref P]) (h1:H p=some (.ins C.row dx [])) (h2:H P=some (.lst (as.map V.ref))) (h3:as.length<=100) (h4:∀ c T dt L (ws:List Addr) H',H c=none->H T=none->H L=none->(∀ x∈ws,H x=none)->(c::ws).Nodup->ws.length=as.length+1->SameBut p H H'->H' p=some (.ins C.row dx (mf c (fR P T)))->H' c=some (.lst [])->H' T=some (.ins C.tab dt (Wy P L))->H' L=some (.lst (ws.map V.ref))->(∀ x∈ws,H' x=some (.lst []))->Q .non H')
theorem Z4r {k:Nat} {Z1 Z3 Z2 Z5 Z6 Z4 Z7 Z0:Addr} (R:g.bH "RowMaker" Z5 "RowMaker.__init__" Ad ["self","parts"]) {dh:Nat} (Z4V:g.Ma dh "RowTable" Z6 ["self","parts"] (Lh (Cs.mk Z0 Z4 Z5 Z6 Z2 Z3 Z1 Z7))) (pN:dh+1<=k) (ZK:g.Cf k "Maker" "__init__" ["self"] (jQ (Cs.mk Z0 Z4 Z5 Z6 Z2 Z3 Z1 Z7))) (Zf:Cls g.K Z5) (ZC:Yg g.K Z5 "counts") (ZE:Yg g.K Z5 "parts") (ZB:Yg g.K Z5 "table"):g.Ma (k+1) "RowMaker" Z5 ["self","parts"] (Lk (Cs.mk Z0 Z4 Z5 Z6 Z2 Z3 Z1 Z7)):=by
 refine R.ma Z4f (λvs H Q E h=>by obtain ⟨p,dx,P,as,rfl,hp,hP,hl,q⟩:=h;rfl) λf_ cdv A outer s H vs Q E hr h=>?_
 obtain ⟨p,dx,P,as,rfl,hp,hP,hl,q⟩:=h;refine ⟨_,(Yf (Y9 (VI ZK hr (Ya (pv 0) Yd))) (Yf (Xa (pv 0) (pv 1) rfl) (Yi (Xa (pv 0) (WS Z4V hr (Ya (pv 1) Yd)) rfl)))),?_⟩;walk_at "rd";refine ⟨p,dx,_,rfl,.inr (.inr (.inl rfl)),hp,λc hc=>?_⟩;have hne:p≠c:=Yl hp hc;have npP:p≠P:=Y8 hp hP (by simp);have nPc:P≠c:=Yl hP hc;refine ⟨_,dx,_,Yb,Zf,ZE,Xw (show 1<=3 by decide),?_⟩;obtain ⟨H1,hH1⟩:∃ H1,H1=upd (upd (upd H c (.lst [])) p (.ins Z5 dx [("counts",.ref c)])) p (.ins Z5 dx (YW "parts" (.ref P) [("counts",.ref c)])):=⟨_,rfl⟩;rw [<- hH1];have BJ:H1 p=some (.ins Z5 dx (mf c [("parts",.ref P)])):=by rw [hH1,Yb,UY (n1 (by decide +kernel))]
 have BK:H1 c=some (.lst []):=by rw [hH1,Ye (ai hne),Ye (ai hne),Yb]
 have h1:∀ {b:Addr} {o:HO},b≠p->H b=some o->H1 b=some o:=λn e=>by rw [hH1,Ye n,Ye n,Ye (Yl e hc)];exact e
 have nf:∀ {b:Addr},H1 b=none->H b=none:=λ{b} e=>by
  cases z:H b with
  | none=>rfl
  | some o =>
   exfalso;by_cases cc:b=p
   ·subst cc;rw [BJ] at e;cases e
   ·rw [h1 cc z] at e;cases e
 intro T dt gT gdt hnd;have sd:=Yk.aj gdt (.own T);have gT2:upd H1 dt (.own T) T=none:=by rw [Ye (ai hnd)];exact gT
 have s12:=sd.trans (.aj gT2 (.ins Z6 dt []));refine ⟨T,dt,P,as,rfl,Yb,s12 _ _ (h1 (ai npP) hP),hl,λL ws H3 gL Ln R0 hwl sb h3T Lp Lq=>?_⟩;have Lr:p≠T:=Yl BJ gT;have ncT:c≠T:=Yl BK gT;have BL:=sb _ _ Lr (s12 _ _ BJ);have h3c:=sb _ _ ncT (s12 _ _ BK);have ncw:c∉ws:=λz=>by have:=Ln c z;rw [s12 _ _ BK] at this;cases this
 have npw:∀ x∈ws,x≠p:=λx hx=>Y8 (Lq x hx) BL (by simp)
 have npL:L≠p:=Y8 Lp BL (by simp);refine ⟨rfl,_,dx,_,BL,Zf,ZB,Xw (show 2<=3 by decide),?_⟩;refine q c T dt L ws _ hc (nf gT) (nf (s12.free gL)) (λx hx=>nf (s12.free (Ln x hx))) (aI.mpr ⟨ncw,R0⟩) hwl (λb o hb e=>?_) ?_ ?_ ?_ ?_ (λx hx=>?_)
 ·rw [Ye hb]
  exact sb _ _ (Yl (h1 hb e) gT) (s12 _ _ (h1 hb e))
 ·rw [Yb,vH (n1 (by decide +kernel)) (n1 (by decide +kernel))];rfl
 ·rw [Ye (ai hne)];exact h3c
 ·rw [Ye (ai Lr)];exact h3T
 ·rw [Ye npL];exact Lp
 ·rw [Ye (npw x hx)];exact Lq x hx
def lf (b:V) (d:Addr):List (Str×V):=[("book",b),("makers",.ref d)]
theorem nbm:¬ (("book":Str)="makers"):=by decide +kernel
theorem YhA (b:V) (d:Addr):YW "makers" (.ref d) (YW "book" b [])=lf b d:=by
 simp only [YW,if_neg nbm];rfl
theorem Wc (b:V) (d:Addr):(lf b d).lookup ("makers":Str)=some (.ref d):=by
 show c6 ("makers":Str) [(("book":Str),b),(("makers":Str),V.ref d)]=_
 rw [Υ,show (("makers":Str)==("book":Str))=false by decide +kernel,Υ,show (("makers":Str)==("makers":Str))=true by decide +kernel]
theorem YgK (b:V) (d:Addr):(lf b d).lookup ("book":Str)=some b:=rfl
theorem Qt (b:V) (d:Addr) {m:Str} (h1:(m==("book":Str))=false) (h2:(m==("makers":Str))=false):(lf b d).lookup m=none:=by
 show c6 m [(("book":Str),b),(("makers":Str),V.ref d)]=_
 rw [Υ,h1,Υ,h2];rfl
inductive Lx (P:δ) (w:ι) (C:Addr) (vs:List V) (H:Hp) (Q:VK) (E_:XK):Prop
 | mk (p dx:Addr) (b:V) (h0:vs=[.ref p,b]) (h1:H p=some (.ins C dx [])) (h2:∀ d H',H d=none->SameBut p H H'->H' p=some (.ins C dx (lf b d))->H' d=some (cg P w d [])->Q .non H')
theorem Z5a {Z9:Addr} (R:g.bH "Lister" Z9 "Lister.__init__" zQ ["self","book"]) (ZH:Cls g.K Z9) (ZJ:Yg g.K Z9 "book") (Zu:Yg g.K Z9 "makers"):g.Ma (1) "Lister" Z9 ["self","book"] (Lx g.P g.w Z9):=by
 refine R.ma Z58 (λvs H Q E h=>by obtain ⟨p,dx,b,rfl,hp,q⟩:=h;rfl) λf_ cdv A outer s H vs Q E hr h=>?_
 obtain ⟨p,dx,b,rfl,hp,q⟩:=h;refine ⟨_,(Yf (Xa (pv 0) (pv 1) rfl) (Yi (Xa (pv 0) Yfa rfl))),?_⟩;walk_at "rd";refine ⟨Z9,dx,[],hp,ZH,ZJ,by decide,λd hd=>?_⟩;have hne:p≠d:=Yl Yb hd;rw [Ye (ai hne)] at hd
 refine ⟨Z9,dx,_,by rw [Ye hne];exact Yb,ZH,Zu,by simp [YW],q d _ hd (λx o hx h=>?_) ?_ ?_⟩
 ·rw [Ye hx,Ye (Yl h hd),Ye hx];exact h
 ·rw [Yb,YhA]
 ·rw [Ye (ai hne),Yb]
  rfl
theorem Y6 {H:Hp} {a b:Addr} {o:HO} (h:upd H a o b=none):H b=none:=by
 by_cases e:b=a
 ·subst e;rw [Yb] at h;cases h
 ·rw [Ye e] at h;exact h
theorem XA {H H':Hp} {x dx:Addr} {o u:HO} (hx:H x=none) (hdx:H dx=none) (sb:SameBut x (upd (upd H dx o) x u) H'):Yk H H':=λy z h=>by
 have n1:y≠x:=Yl h hx;have n2:y≠dx:=Yl h hdx;exact sb _ _ n1 (by rw [Ye n1,Ye n2];exact h)
def WQ (K:Θ) (H:Hp) (B:Addr) (prs:aR):Prop:=∃ vs:List V,H B=some (.lst vs)/\vs.length=prs.length/\∀ (i:Nat) v q,vs[i]?=some v->prs[i]?=some q->∃ T a,v = .ref T/\aJ K H T [.str (S q.1),.ref a]/\DK K H a (kd q.2)
inductive Ly (K:Θ) (vs:List V) (H:Hp) (Q:VK) (E_:XK):Prop
 | mk (prs:aR) (B:Addr) (x:List Nat) (q:List Nat×Sh) (h0:vs=[.ref B,.str (S x)]) (h1:WQ K H B prs) (h2:prs.find? (λq=>decide (q.1=x))=some q) (h3:∀ a,DK K H a (kd q.2)->Q (.ref a) H)
theorem YbK  (R:g.Raw "shape_of" "shape_of" zf ["book","name"]):g.Fn (1) "shape_of" ["book","name"] (Ly g.K):=by
 refine R.fn Jm (λvs H Q E h=>by obtain ⟨prs,B,x,q,rfl,⟨vs,hB,hl,hv⟩,hf,q'⟩:=h;rfl) λf_ cdv A outer s H vs Q E hr h=>?_
 obtain ⟨prs,B,x,q,rfl,⟨vs,hB,hl,hv⟩,hf,q'⟩:=h;refine ⟨_,(Yf (Xt ar rfl (Xl (pv 0)) (Yu (i:=2) Jm.nd rfl (.inl rfl)) (Yi (YF (Yq YL (Yr YD (pv 2) Yh) (pv 1) (Ys _)) (Yi (Yn (Yr YD (pv 2) Yh))) Yw))) (Yi W4)),?_⟩;walk_at "rd";refine Qj (K:=g.K) (xs:=vs) (λc i σ H'=>c=B/\H=H'/\(∃ o,σ=[some (.ref B),some (.str (S x)),o])/\∀ (j:Nat) p,j<i->prs[j]?=some p->p.1≠x) (λR r=>by walk_at "rd";exact r B _ ⟨rfl,rfl,⟨_,rfl⟩,λj p hj=>by omega⟩) (λc i σ H' _ ⟨e,e2,_⟩=>by subst e e2;exact au.of hB) ?_ ?_
 ·rintro c i v σ H' hx ⟨rfl,rfl,⟨o,rfl⟩,hall⟩
  have hi:=(Η.mp hx).1;have hp:prs[i]?=some (prs[i]'(by omega)):=Ε _;generalize prs[i]'(by omega)=p at hp;obtain ⟨T,a,rfl,hT,hk⟩:=hv i v p hx hp;walk_at "rd";refine ⟨_,hT,_,Yo (j:=0) rfl,YC _ _,?_⟩;by_cases e:p.1=x
  ·refine Wg (by rw [e]) ⟨_,hT,_,Yo (j:=1) rfl,q' a ?_⟩
   have:q=p:=by
    obtain ⟨j,hj,e1,e2⟩:=dC.mp hf |>.2
    have e1':prs[j]?=some q:=by rw [Ε hj,e1]
    have BP:q.1=x:=of_decide_eq_true (dC.mp hf).1;rcases Nat.lt_trichotomy j i with c | c | c
    ·exact absurd BP (hall j q c e1')
    ·subst c;rw [e1'] at hp;exact Δ hp
    ·have:=e2 i c
     rw [Ε (by omega)] at hp
     have hp:=Δ hp;rw [hp] at this
     simp [e] at this
   rw [this];exact hk
  ·refine Xd (λz=>e (Qi (V.str.inj z))) λj p' hj hp'=>?_
   rcases Nat.lt_succ_iff_lt_or_eq.mp hj with c | rfl
   ·exact hall j p' c hp'
   ·rw [hp] at hp'
    have:=Δ hp';subst this;exact e
 ·rintro c σ H' ⟨rfl,rfl,⟨o,rfl⟩,hall⟩
  exfalso;obtain ⟨j,hj,e1,e2⟩:=dC.mp hf |>.2
  have BP:q.1=x:=of_decide_eq_true (dC.mp hf).1;exact hall j q (by omega) (by rw [Ε hj,e1]) BP
def cN (d:Addr) (H H':Hp):Prop:=∀ b o,b≠d->H b=some o->H' b=some o
theorem cN.trans {d:Addr} {H H1 H2:Hp} (a:cN d H H1) (b:cN d H1 H2):cN d H H2:=λc o n e=>b c o n (a c o n e)
theorem Uk {d:Addr} {H H':Hp} (s:Yk H H'):cN d H H':=λc o _ e=>s _ _ e
theorem WQ.bO {K:Θ} {H H':Hp} {B:Addr} {prs:aR} (h:WQ K H B prs) (t:X7 H H') (hB:∀ o,H B=some o->H' B=some o):WQ K H' B prs:=by
 obtain ⟨vs,h1,h2,h3⟩:=h;refine ⟨vs,hB _ h1,h2,λi v q e1 e2=>?_⟩;obtain ⟨T,a,k1,k2,k3⟩:=h3 i v q e1 e2;exact ⟨T,a,k1,t.sq k2,k3.bO t⟩
structure LS (P0:δ) (w0:ι) (K:Θ) (C:Cs) (CL:Addr) (prs:aR) (w:Wo) (U O:Addr->Prop) (H:Hp) (ls dx d B:Addr) (xs:Dx):Prop where
 hl:H ls=some (.ins CL dx (lf (.ref B) d))
 hb:WQ K H B prs
 hd:bC P0 w0 K H d xs
 bi:BI C w U O H
 nd:¬ U d
 nl:¬ U ls
 keys:∀ e∈xs,∃ sh,e.1=kd sh/\aH prs sh/\w.reg e.2.2=some sh
 bk:w.bk=aF prs
 ob:jt prs
 M2:w.M=2
section
variable {P0:δ} {w0:ι} {K:Θ} {C:Cs} {CL:Addr} {prs:aR} {w:Wo} {U O:Addr->Prop} {H H':Hp} {ls dx d B:Addr} {xs:Dx}
theorem LS.loc (L:LS P0 w0 K C CL prs w U O H ls dx d B xs) {D:Addr} (hD:∀ o,H D=some o->∃ zs,o = .lst zs) (nB:D≠B) (nU:¬ U D) (hk:∀ b o,b≠D->H b=some o->H' b=some o):LS P0 w0 K C CL prs w U O H' ls dx d B xs:=by
 have ne:∀ {b:Addr} {o:HO},H b=some o->(∀ zs,o ≠ .lst zs)->b≠D:=λe n z=>by
  rw [z] at e
  obtain ⟨zs,h⟩:=hD _ e;exact n zs h
 have tk:X7 H H':=λb ys h=>by
  rcases h with h | ⟨o,h⟩
  ·exact .inl (hk _ _ (ne h (by intro zs z;cases z)) h)
  ·exact .inr ⟨o,hk _ _ (ne h (by intro zs z;cases z)) h⟩
 refine ⟨hk _ _ (ne L.hl (by intro zs z;cases z)) L.hl,L.hb.bO tk λo e=>hk _ _ (ai nB) e,L.hd.keep tk (hk _ _ (ne L.hd.at_ (by intro zs z;cases z)) L.hd.at_),L.bi.keep λb o hb e=>hk b o (λz=>nU (by rw [<- z];exact hb)) e,L.nd,L.nl,L.keys,L.bk,L.ob,L.M2⟩
theorem LS.same (L:LS P0 w0 K C CL prs w U O H ls dx d B xs) (s:Yk H H'):LS P0 w0 K C CL prs w U O H' ls dx d B xs :=
 ⟨s _ _ L.hl,L.hb.bO (Wu s) λo e=>s _ _ e,L.hd.keep (Wu s) (s _ _ L.hd.at_),L.bi.keep λb o _ e=>s _ _ e,L.nd,L.nl,L.keys,L.bk,L.ob,L.M2⟩
theorem Ve {a:Addr} {k:Γ} {φ:Heap->Prop} (h:DK K H a k) (fr:cN d H H') (hd:H d=some (.ext φ)):DK K H' a k:=h.bO (Wv fr hd (by intro xs z;cases z) (by intro o v z;cases z))
theorem LS.made (L:LS P0 w0 K C CL prs w U O H ls dx d B xs) (s:Yk H H') {p:Addr} {os ss:List Addr} {sh:Sh} (N:New H H' U p os ss) (hd:d∉os/\d∉ss) (hl:ls∉os/\ls∉ss) (hm:Wl C (w.add p sh os) (t0 (Ua U os ss)) H' p sh):LS P0 w0 K C CL prs (w.add p sh os) (Ua U os ss) O H' ls dx d B xs:=by
 have BR:¬ O p:=λz=>by
  obtain ⟨_,_,_,_,h,_⟩:=L.bi.op p z;exact N.nu _ (.inr N.inn) h.2
 refine ⟨s _ _ L.hl,L.hb.bO (Wu s) λo e=>s _ _ e,L.hd.keep (Wu s) (s _ _ L.hd.at_),N.bi L.bi (λ_ _=>Iff.rfl) (λ_=>hm) (λz=>absurd z BR),λz=>?_,λz=>?_,λe he=>?_,L.bk,L.ob,L.M2⟩
 ·rcases z with z | z | z
  ·exact L.nd z
  ·exact hd.1 z
  ·exact hd.2 z
 ·rcases z with z | z | z
  ·exact L.nl z
  ·exact hl.1 z
  ·exact hl.2 z
 ·obtain ⟨s',h1,h2,h3⟩:=L.keys e he
  exact ⟨s',h1,h2,(N.wg (H0:=λ_=>none) L.bi sh λ_ _=>rfl).reg _ _ h3⟩
theorem LS.reg (L:LS P0 w0 K C CL prs w U O H ls dx d B xs) {p:Addr} {sh:Sh} (hok:aH prs sh) (h:aK xs (kd sh)=some p):w.reg p=some sh:=by
 obtain ⟨e,he,hp⟩:=ε.mp h;have hm:=List.mem_of_find?_eq_some he;have hk:e.1=kd sh:=of_decide_eq_true (List.find?_some (p:=λ(x:Γ×Addr×Addr)=>decide (x.1=kd sh)) he);obtain ⟨s',h1,h2,h3⟩:=L.keys e hm;rw [hk] at h1
 rw [Uh hok h2 h1,<- hp];exact h3
end
noncomputable def nn (prs:aR) (xs:Dx):Nat:=(prs.filter λq=>(aK xs (kd (.use q.1))).isNone).length
def Mo (xs xs':Dx):Prop:=∀ e,aK xs e≠none->aK xs' e≠none
theorem Mo.refl (xs:Dx):Mo xs xs:=λ_ h=>h
theorem Mo.trans {xs xs1 xs2:Dx} (a:Mo xs xs1) (b:Mo xs1 xs2):Mo xs xs2:=λe h=>b e (a e h)
theorem Mo.at {xs xs':Dx} (h:Mo xs xs') (e:Γ):(aK xs' e).isNone=true->(aK xs e).isNone=true:=λz=>by
 cases c:aK xs e with
 | none=>rfl
 | some p =>
  have:=h e (by rw [c];intro y;cases y);rw [Option.isNone_iff_eq_none] at z
  exact absurd z this
theorem QY {prs:aR} {xs xs':Dx} (h:Mo xs xs'):nn prs xs'<=nn prs xs:=by
 unfold nn
 induction prs with
 | nil=>exact Κ _
 | cons q prs ih =>
  rw [ix,ix];have:=h.at (kd (.use q.1))
  split
  ·rename_i c
   rw [if_pos (this c)];simp only [ω];omega
  ·split
   ·simp only [ω];omega
   ·exact ih
theorem YgL {prs:aR} {xs xs':Dx} {x:List Nat} (h:Mo xs xs') (hx:∃ q,(prs.find? λq=>decide (q.1=x))=some q) (h1:aK xs (kd (.use x))=none) (h2:aK xs' (kd (.use x))≠none):nn prs xs'+1<=nn prs xs:=by
 obtain ⟨q,hq⟩:=hx;have hm:=List.mem_of_find?_eq_some hq;have he:q.1=x:=of_decide_eq_true (List.find?_some (p:=λ(z:List Nat×Sh)=>decide (z.1=x)) hq);clear hq;subst he;unfold nn
 induction prs with
 | nil=>cases hm
 | cons r prs ih =>
  rw [ix,ix];have ha:=h.at (kd (.use r.1));have hmo:=QY (prs:=prs) h;unfold nn at hmo;rcases Ν.mp hm with rfl | hm
  ·have e1:(aK xs (kd (.use q.1))).isNone=true:=by rw [h1];rfl
   have e2:¬ (aK xs' (kd (.use q.1))).isNone=true:=λz=>h2 (Option.isNone_iff_eq_none.mp z)
   rw [if_neg e2,if_pos e1];simp only [ω];omega
  ·have:=ih hm
   split
   ·rename_i c
    rw [if_pos (ha c)];simp only [ω];omega
   ·split
    ·simp only [ω];omega
    ·exact this
theorem Ez {prs:aR} {xs:Dx}:nn prs xs<=prs.length:=List.length_filter_le _ _
inductive ju (P0:δ) (w0:ι) (K:Θ) (C:Cs) (CL:Addr) (l:Nat) (vs:List V) (H:Hp) (Q:VK) (E_:XK):Prop
 | mk (prs:aR) (w:Wo) (U O:Addr->Prop) (ls dx d B a:Addr) (sh:Sh) (xs:Dx) (h0:vs=[.ref ls,.ref a]) (h1:LS P0 w0 K C CL prs w U O H ls dx d B xs) (h2:DK K H a (kd sh)) (h3:aH prs sh) (h4:kind sh≠5) (h5:dep sh<=w.M) (h6:wt sh<=24) (h7:xs.length+50*nn prs xs+2*wt sh<=900) (h8:8*nn prs xs+2*dep sh+1<=l) (h9:∀ p H' w' U' xs',LS P0 w0 K C CL prs w' U' O H' ls dx d B xs'->WG w w' U U' H->cN d H H'->w'.reg p=some sh->xs'.length+50*nn prs xs'+1<=xs.length+50*nn prs xs+2*wt sh->Mo xs xs'->Q (.ref p) H')
inductive lH (P0:δ) (w0:ι) (K:Θ) (C:Cs) (CL:Addr) (l:Nat) (vs:List V) (H:Hp) (Q:VK) (E_:XK):Prop
 | mk (prs:aR) (w:Wo) (U O:Addr->Prop) (ls dx d B a:Addr) (sh:Sh) (xs:Dx) (h0:vs=[.ref ls,.ref a]) (h1:LS P0 w0 K C CL prs w U O H ls dx d B xs) (h2:DK K H a (kd sh)) (h3:aH prs sh) (h4:dep sh<=w.M) (h5:wt sh<=24) (h6:xs.length+50*nn prs xs+2*wt sh<=900) (h7:8*nn prs xs+2*dep sh+2<=l) (h8:∀ p H' w' U' xs',LS P0 w0 K C CL prs w' U' O H' ls dx d B xs'->WG w w' U U' H->cN d H H'->w'.reg p=some sh->xs'.length+50*nn prs xs'<=xs.length+50*nn prs xs+2*wt sh->Mo xs xs'->Q (.ref p) H')
inductive vI (P0:δ) (w0:ι) (K:Θ) (C:Cs) (CL:Addr) (l:Nat) (vs:List V) (H:Hp) (Q:VK) (E_:XK):Prop
 | mk (prs:aR) (w:Wo) (U O:Addr->Prop) (ls dx d B a:Addr) (x:List Nat) (xs:Dx) (h0:vs=[.ref ls,.ref a]) (h1:LS P0 w0 K C CL prs w U O H ls dx d B xs) (h2:DK K H a (kd (.use x))) (h3:aH prs (.use x)) (h4:aK xs (kd (.use x))=none) (h5:xs.length+50*nn prs xs<=900) (h6:1<=l) (h7:8*nn prs xs<=l+1) (h8:∀ H' w' U' xs',LS P0 w0 K C CL prs w' U' O H' ls dx d B xs'->WG w w' U U' H->cN d H H'->aK xs' (kd (.use x))≠none->xs'.length+50*nn prs xs'<=xs.length+50*nn prs xs->Mo xs xs'->Q .non H')
theorem YhB {P0:δ} {w0:ι} {K:Θ} {C:Cs} {CL:Addr} {vs:List V} {H:Hp} {Q:VK} {E:XK} (h:ju P0 w0 K C CL 0 vs H Q E):False:=by
 obtain ⟨prs,w,U,O,ls,dx,d,B,a,sh,xs,_,_,_,_,_,_,_,_,h,_⟩:=h;omega
theorem Lz {P0:δ} {w0:ι} {K:Θ} {C:Cs} {CL:Addr} {vs:List V} {H:Hp} {Q:VK} {E:XK} (h:lH P0 w0 K C CL 0 vs H Q E):False:=by
 obtain ⟨prs,w,U,O,ls,dx,d,B,a,sh,xs,_,_,_,_,_,_,_,h,_⟩:=h;omega
theorem Ydq {P0:δ} {w0:ι} {K:Θ} {C:Cs} {CL:Addr} {vs:List V} {H:Hp} {Q:VK} {E:XK} (h:vI P0 w0 K C CL 0 vs H Q E):False:=by
 obtain ⟨prs,w,U,O,ls,dx,d,B,a,x,xs,_,_,_,_,_,_,h,_⟩:=h;omega
theorem vJ {prs:aR} {sh:Sh} (ob:jt prs) (h:aH prs sh) (hw:wt sh<=24) {s:Nat} (hs:s<=45):sm (cnt (aF prs) sh s):=by
 obtain ⟨h1,h2⟩:=Ui prs ob sh s hs h hw;refine ⟨300*s+(12*wt sh - 6)+1,by omega,?_⟩;have h3:(2:Int)^(300*s+(12*wt sh - 6))<2^(300*s+(12*wt sh - 6)+1):=by
  have:(2:Nat)^(300*s+(12*wt sh - 6))<2^(300*s+(12*wt sh - 6)+1):=Nat.pow_lt_pow_right (by decide) (by omega)
  exact_mod_cast this
 have h4:((cnt (aF prs) sh s).natAbs:Int)<((2^(300*s+(12*wt sh - 6)+1):Nat):Int):=by
  rw [Int.natAbs_of_nonneg h1];have:=Int.lt_of_le_of_lt h2 h3
  exact_mod_cast this
 exact_mod_cast h4
theorem YhC {prs:aR} {ps:List Sh} (ob:jt prs) (h:Xf prs ps) (hw:aO ps<=24) {s:Nat} (hs:s<=45):sm (YY (aF prs) ps s):=by
 obtain ⟨h1,h2⟩:=K1 prs ob ps s hs h hw;refine ⟨300*s+12*aO ps+1,by omega,?_⟩;have h3:(2:Int)^(300*s+12*aO ps)<2^(300*s+12*aO ps+1):=by
  have:(2:Nat)^(300*s+12*aO ps)<2^(300*s+12*aO ps+1):=Nat.pow_lt_pow_right (by decide) (by omega)
  exact_mod_cast this
 have h4:((YY (aF prs) ps s).natAbs:Int)<((2^(300*s+12*aO ps+1):Nat):Int):=by
  rw [Int.natAbs_of_nonneg h1];have:=Int.lt_of_le_of_lt h2 h3
  exact_mod_cast this
 exact_mod_cast h4
theorem new1 {U:Addr->Prop} {H H':Hp} {p c:Addr} {ss:List Addr} (nU:∀ {b:Addr},H b=none->¬ U b) (s:Yk H H') (hc:H c=none) (h4:H' c=some (.lst [])) (hs:∀ b∈ss,¬ U b/\b≠c/\H' b≠none) (hp:p∈ss):New H H' U p [c] ss :=
 ⟨λb hb=>by
  rcases hb with hb | hb
  ·rw [Φ.mp hb];exact nU hc
  ·exact (hs b hb).1,hp,by simp,λb hb hb'=>(hs b hb').2.1 (Φ.mp hb),λb o _ e=>s _ _ e,λb hb=>by
  rcases hb with hb | hb
  ·rw [Φ.mp hb,h4];intro z;cases z
  ·exact (hs b hb).2.2⟩
section
variable {P0:δ} {w0:ι} {K:Θ} {C:Cs} {CL:Addr} {prs:aR} {w w1:Wo} {U U1 O:Addr->Prop} {H H1 H3:Hp} {ls dx d B:Addr} {xs xs1:Dx}
theorem LS.fin (L:LS P0 w0 K C CL prs w U O H ls dx d B xs) (L1:LS P0 w0 K C CL prs w1 U1 O H1 ls dx d B xs1) (G1:WG w w1 U U1 H) (bF:cN d H H1) (s:Yk H1 H3) {p:Addr} {os ss:List Addr} {sh:Sh} (N:New H1 H3 U1 p os ss) (h0:∀ b,b∈os\/b∈ss->H b=none) (hm:Wl C (w1.add p sh os) (t0 (Ua U1 os ss)) H3 p sh) :
  LS P0 w0 K C CL prs (w1.add p sh os) (Ua U1 os ss) O H3 ls dx d B xs1/\WG w (w1.add p sh os) U (Ua U1 os ss) H/\cN d H H3/\(w1.add p sh os).reg p=some sh:=by
 have nd:∀ {l:List Addr},(∀ b∈l,H b=none)->d∉l:=λh z=>by have:=h d z;rw [L.hd.at_] at this;cases this
 have nl:∀ {l:List Addr},(∀ b∈l,H b=none)->ls∉l:=λh z=>by have:=h ls z;rw [L.hl] at this;cases this
 exact ⟨L1.made s N ⟨nd λb hb=>h0 b (.inl hb),nd λb hb=>h0 b (.inr hb)⟩ ⟨nl λb hb=>h0 b (.inl hb),nl λb hb=>h0 b (.inr hb)⟩ hm,G1.trans (N.wg L1.bi sh h0) (λ_ h=>h),bF.trans (Uk s),if_pos rfl⟩
theorem LS.back (L1:LS P0 w0 K C CL prs w1 U1 O H1 ls dx d B xs1) (bF:cN d H H1) {b:Addr} (h:H1 b=none):H b=none:=by
 cases e:H b with
 | none=>rfl
 | some o =>
  exfalso;by_cases c:b=d
  ·subst c;rw [L1.hd.at_] at h;cases h
  ·rw [bF b o c e] at h;cases h
theorem LS.one (L:LS P0 w0 K C CL prs w U O H ls dx d B xs) (L1:LS P0 w0 K C CL prs w1 U1 O H1 ls dx d B xs1) (G1:WG w w1 U U1 H) (bF:cN d H H1) (s:Yk H1 H3) {x bW c:Addr} {sh:Sh} {fs:List (Str×V)} (hx:H1 x=none) (hc:H1 c=none) (ncx:c≠x) (h3:H3 x=some (.ins (Ug C sh) bW (mf c fs))) (h4:H3 c=some (.lst [])) (hok:aH prs sh) (hd:dep sh<=w.M) (hw:wt sh<=24)
  (hS:∀ w2 U2,(∀ b s,w1.reg b=some s->w2.reg b=some s)->w2.bk=w1.bk->Sub C w2 (t0 U2) H3 x sh fs):LS P0 w0 K C CL prs (w1.add x sh [c]) (Ua U1 [c] [x]) O H3 ls dx d B xs1/\WG w (w1.add x sh [c]) U (Ua U1 [c] [x]) H/\cN d H H3/\(w1.add x sh [c]).reg x=some sh:=by
 have iJ:∀ {b:Addr},H1 b=none->¬ U1 b:=λe z=>L1.bi.al _ z e
 have N:=new1 (U:=U1) (ss:=[x]) iJ s hc h4 (λb hb=>by cases Φ.mp hb;exact ⟨iJ hx,ai ncx,by rw [h3];intro z;cases z⟩) (.head _);have G:=N.wg (H0:=λ_=>none) L1.bi sh λ_ _=>rfl
 have hm:Wl C (w1.add x sh [c]) (t0 (Ua U1 [c] [x])) H3 x sh:=⟨bW,c,fs,N.un L1.bi _ (.head _),by show _<=w1.M;rw [G1.M];exact hd,λs hs=>by show sm (cnt w1.bk _ s);rw [L1.bk];exact vJ L.ob hok hw hs,ν _,h3,N.dat _ (i:=0) rfl,h4,hS _ _ G.reg rfl⟩;exact L.fin L1 G1 bF s N (λb hb=>by
  rcases hb with hb | hb<;>cases Φ.mp hb
  ·exact L1.back bF hc
  ·exact L1.back bF hx) hm
end
theorem YgM {prs:aR} {sh q:Sh} (h:aH prs sh) (hq:q∈XS sh):aH prs q:=by
 cases sh with
 | row ps=>rw [aH] at h;exact WB h.2 hq
 | pick mk ps=>rw [aH] at h;exact WB h.2.2.1 hq
 | many p=>rw [aH] at h;cases Φ.mp hq;exact h
 | alike p n=>rw [aH] at h;cases Φ.mp hq;exact h.1
 | _=>cases hq
theorem Yfm {sh q:Sh} (hq:q∈XS sh):dep q+1<=dep sh:=by
 cases sh with
 | row ps=>rw [show dep (.row ps)=YH ps+1 by rw [dep]];have:=X9 (ps:=ps) hq;omega
 | pick mk ps=>rw [show dep (.pick mk ps)=YH ps+1 by rw [dep]];have:=X9 (ps:=ps) hq;omega
 | many p=>cases Φ.mp hq;rw [show dep (.many q)=dep q+1 by rw [dep]];omega
 | alike p n=>cases Φ.mp hq;rw [show dep (.alike q n)=dep q+1 by rw [dep]];omega
 | _=>cases hq
theorem LK {sh:Sh} (h:uh sh=true):aO (XS sh)+1=wt sh:=by
 cases sh with
 | row ps=>rw [show wt (.row ps)=aO ps+1 by rw [wt]];rfl
 | pick mk ps=>rw [show wt (.pick mk ps)=aO ps+1 by rw [wt]];rfl
 | many p=>rw [show wt (.many p)=wt p+1 by rw [wt],show aO (XS (.many p))=aO [p] from rfl,aO,aO]
 | alike p n=>rw [show wt (.alike p n)=wt p+1 by rw [wt],show aO (XS (.alike p n))=aO [p] from rfl,aO,aO]
 | _=>cases h
theorem QZ:∀ a b:List Sh,aO (a++b)=aO a+aO b
 | [],b=>by simp [aO]
 | p::a,b=>by
  have:=QZ a b;rw [List.cons_append,aO,aO];omega
theorem Yfn {l:List Sh} {i:Nat} {q:Sh} (h:l[i]?=some q):aO (l.take (i+1))=aO (l.take i)+wt q:=by
 rw [YT h,QZ];simp [aO]
theorem YbL (l:List Sh) (i:Nat):aO (l.take i)<=aO l:=by
 have e:aO l=aO (l.take i)+aO (l.drop i):=by rw [<- QZ,List.take_append_drop]
 omega
theorem Mf:∀ l:List Sh,l.length<=aO l
 | []=>ν _
 | p::l=>by
  have:=Mf l;have:=Vx p;rw [aO,ω];omega
variable {m:Nat}
theorem Mg {k:Nat} {Z1 Z9 Z3 Z2 Z5 Z6 Z4 Z7 Z0:Addr} (R:g.aD Z9 "new_maker" "Lister.new_maker" zU ["self","shape"]) (oW:g.Fn k "parts_of" ["shape"] (Bw g.K)) (qG:g.Me k Z9 "maker_of" ["self","shape"] (lH g.P g.w g.K (Cs.mk Z0 Z4 Z5 Z6 Z2 Z3 Z1 Z7) Z9 m)) {cO:Nat} (Z3W:g.Ma cO "WholeMaker" Z0 ["self","low","high"] (La (Cs.mk Z0 Z4 Z5 Z6 Z2 Z3 Z1 Z7))) (nF:cO+1<=k) {cY:Nat} (Z4s:g.Ma cY "TextMaker" Z4 ["self","signs"] (Lb (Cs.mk Z0 Z4 Z5 Z6 Z2 Z3 Z1 Z7))) (oX:cY+1<=k) {dj:Nat} (Z4W:g.Ma dj "RowMaker" Z5 ["self","parts"] (Lk (Cs.mk Z0 Z4 Z5 Z6 Z2 Z3 Z1 Z7))) (pO:dj+1<=k) {cZ:Nat} (Z4t:g.Ma cZ "PickMaker" Z2 ["self","marks","parts"] (Lf (Cs.mk Z0 Z4 Z5 Z6 Z2 Z3 Z1 Z7))) (oY:cZ+1<=k) {c7:Nat} (Z4u:g.Ma c7 "ManyMaker" Z3 ["self","part"] (Ld (Cs.mk Z0 Z4 Z5 Z6 Z2 Z3 Z1 Z7))) (oZ:c7+1<=k) {cQ:Nat} (Z3X:g.Ma cQ "AlikeMaker" Z1 ["self","part","times"] (Le (Cs.mk Z0 Z4 Z5 Z6 Z2 Z3 Z1 Z7))) (nG:cQ+1<=k) (ZH:Cls g.K Z9) (ZJ:Yg g.K Z9 "book") (Zu:Yg g.K Z9 "makers"):g.Me (k+1) Z9 "new_maker" ["self","shape"] (ju g.P g.w g.K (Cs.mk Z0 Z4 Z5 Z6 Z2 Z3 Z1 Z7) Z9 (m+1)):=by
 refine R.me zV (λvs H Q E h=>by obtain ⟨prs,w,U,O,ls,dx,d,B,a,sh,xs,rfl,L,hk,hok,hki,hdp,cR,gJ,hnm,q⟩:=h;rfl) λf_ cdv A outer s H vs Q E hr h=>?_
 obtain ⟨prs,w,U,O,ls,dx,d,B,a,sh,xs,rfl,L,hk,hok,hki,hdp,cR,gJ,hnm,q⟩:=h;refine ⟨_,(Yf (Yp (i:=2) zV.nd rfl (.inl rfl) (Yr YD (pv 1) Yh)) (Yf (YF (Yq YL (pv 2) YO (Ys _)) (Yi (Yn (WS Z3W hr (Ya (Yr YD (pv 1) Yh) (Ya (Yr YD (pv 1) Yh) Yd))))) Yw) (Yf (YF (Yq YL (pv 2) YO (Ys _)) (Yi (Yn (WS Z4s hr (Ya (Yr YD (pv 1) Yh) Yd)))) Yw) (Yf (HS (i:=3) (src:=[none,some 0]) (N':=(["part","self"]:List Str)) (g:=Yv 0) zV.nd rfl (.inl rfl) (.own (.cap (i:=0) rfl rfl (by first | exact .inl rfl | exact .inr rfl) .nil)) rfl (Xl (YA oW hr (Ya (pv 1) Yd))) (λcl C s₀ H₀ fp pn=>(Yu (i:=0) (show ay (["part","self"]:List Str) by decide +kernel) rfl (.inl rfl) (.inr rfl))) (λcl C s₀ H₀ fp pn=>Y5) (λcl C s₀ H₀ fp pn=>(Xz qG ZH hr (pv 1) (Ya (pv 0) Yd))) (by intro x hx;simp at hx;first | (subst hx;exact .inl rfl) | (rcases hx with rfl | rfl<;>exact .inl rfl) | (rcases hx with rfl | rfl | rfl<;>exact .inl rfl) | (rcases hx with rfl | rfl | rfl | rfl<;>exact .inl rfl) | (rcases hx with rfl | rfl | rfl | rfl | rfl<;>exact .inl rfl)) (by rfl) (by decide) (by decide +kernel) (by intro _;rfl) (by rfl) (by first | exact .inl rfl | exact .inr rfl | assumption)) (Yf (YF (Yq YL (pv 2) YO (Ys _)) (Yi (Yn (WS Z4W hr (Ya (pv 3) Yd)))) Yw) (Yf (YF (Yq YL (pv 2) YO (Ys _)) (Yi (Yn (WS Z4t hr (Ya (Xn (src:=[none,none]) (N':=(["mark","part"]:List Str)) (g:=Vn g.K 2 (XD (Yv 0) (XD (Yv 1) VD))) (.own (.own .nil)) rfl (U7 (Yr YD (pv 1) Yh)) (λcl C s₀ H₀ fp pn=>(V0 (n:=2) rfl (XB (Yu (i:=0) (show ay (["mark","part"]:List Str) by decide +kernel) rfl (.inl rfl) (.inr rfl)) (XB (Yu (i:=1) (show ay (["mark","part"]:List Str) by decide +kernel) rfl (.inl rfl) (.inr rfl)) Vq)))) (λcl C s₀ H₀ fp pn=>Y5) (λcl C s₀ H₀ fp pn=>(pv 0)) (by intro x hx;simp at hx)) (Ya (pv 3) Yd))))) Yw) (Yf (YF (Yq YL (pv 2) YO (Ys _)) (Yi (Yn (WS Z4u hr (Ya (Yr YQ (pv 3) Yh) Yd)))) Yw) (Yf (YF (Yq YL (pv 2) YO (Ys _)) (Yi (Yn (WS Z3X hr (Ya (Yr YQ (pv 3) Yh) (Ya (Yr YD (pv 1) Yh) Yd))))) Yw) (Yi W4))))))))),?_⟩;have hkd:=hk.den;have nU:∀ {b:Addr},H b=none->¬ U b:=λe z=>L.bi.al _ z e
 have parts:uh sh=true->∀ (mv:V) (Qc:VK),(∀ D (as:List Addr) H1 w1 U1 xs1,LS g.P g.w g.K (Cs.mk Z0 Z4 Z5 Z6 Z2 Z3 Z1 Z7) Z9 prs w1 U1 O H1 ls dx d B xs1->WG w w1 U U1 H->cN d H H1->H D=none->¬ U1 D->H1 D=some (.lst (as.map V.ref))->WM w1.reg as (XS sh)->xs1.length+50*nn prs xs1+2<=xs.length+50*nn prs xs+2*wt sh->Mo xs xs1->Qc (.ref D) H1) ->
   cW [none,some 0] (Wf g.K (VE (Bw g.K) [] E0 (Qb (UK 1) UM))) (Yv 0) XF (Qd Z9 "maker_of" (lH g.P g.w g.K (Cs.mk Z0 Z4 Z5 Z6 Z2 Z3 Z1 Z7) Z9 m) [] E0 (UK 1) (Qb (UK 0) UM)) [some (V.ref ls),some (V.ref a),some mv,none] H Qc:=by
  intro h3 mv Qc hq;have hsw:=LK h3;refine Ydo (K:=g.K) (λb vs H1=>Yk H H1/\H b=none/\∃ bs:List Addr,vs=bs.map V.ref/\H1 b=some (.lst vs)/\bs.length=(XS sh).length/\∀ (i:Nat) b q,bs[i]?=some b->(XS sh)[i]?=some q->DK g.K H b (kd q)) (λR r=>?_) ?_
  ·walk_at "rd"
   exact ⟨prs,a,sh,rfl,hk,hok,h3,λD bs H1 s1 hD hd hl hb=>r D _ H1 ⟨s1,hD,bs,rfl,hd,hl,hb⟩⟩
  ·rintro b vs H1 ⟨s1,gb,bs,rfl,hb1,hbl,hbs⟩
   have hlw:=Mf (XS sh);refine ⟨au.of hb1,by rw [Β];omega,λD i zs H'=>∃ (as:List Addr) (w1:Wo) (U1:Addr->Prop) (xs1:Dx),zs=as.map V.ref/\as.length=i/\LS g.P g.w g.K (Cs.mk Z0 Z4 Z5 Z6 Z2 Z3 Z1 Z7) Z9 prs w1 U1 O H' ls dx d B xs1/\WG w w1 U U1 H/\cN d H1 H'/\¬ U1 D/\H' D=some (.lst zs)/\(∀ (j:Nat) a q,as[j]?=some a->(XS sh)[j]?=some q->w1.reg a=some q)/\xs1.length+50*nn prs xs1<=xs.length+50*nn prs xs+2*aO ((XS sh).take i)/\Mo xs xs1,?_,?_,?_,?_⟩
   ·intro D hD
    have sD:=Yk.aj hD (.lst []);exact ⟨[],w,U,xs,rfl,rfl,(L.same s1).same sD,.refl _ _ _,Uk sD,nU (s1.free hD),Yb,λj a q h=>(by simp at h),by simp [aO],.refl _⟩
   ·rintro D i zs H' hD ⟨as,w1,U1,xs1,rfl,h1,L1,G1,bF,iK,h2,_⟩
    have nbd:b≠d:=Y8 hb1 (s1 _ _ L.hd.at_) (by intro z;cases z);exact ⟨by rw [Β,h1],h2,au.of (bF _ _ nbd hb1)⟩
   ·rintro D i x zs H' hD hx ⟨as,w1,U1,xs1,rfl,hal,L1,G1,bF,iK,hD',hreg,iW,fJ⟩ R r
    rw [Λ] at hx
    obtain ⟨bq,Mh,rfl⟩:=ε.mp hx;have hi:=(Η.mp Mh).1;have qH:(XS sh)[i]?=some ((XS sh)[i]'(by omega)):=Ε _;generalize (XS sh)[i]'(by omega)=sq at qH;have hmem:=Ξ qH;have hdq:=Yfm hmem;have hwq:=Yfn qH;have hwl:=YbL (XS sh) (i+1);have hnn:=QY (prs:=prs) fJ;have Mi:cN d H H':=(Uk s1).trans bF;have dkq:=Ve (hbs i bq sq Mh qH) Mi L.hd.at_;walk_at "rd";refine ⟨_,_,L1.hl,Qt _ _ (by decide +kernel) (by decide +kernel),prs,w1,U1,O,ls,dx,d,B,bq,sq,xs1,rfl,L1,dkq,YgM hok hmem,by rw [G1.M];omega,by omega,by omega,by omega,λp H2 w2 U2 xs2 L2 G2 eX hr2 hl2 nk2=>?_⟩;have nDd:D≠d:=Y8 hD' L1.hd.at_ (by intro z;cases z);have hD2:=eX _ _ nDd hD';have vB:¬ U2 D:=λz=>by
     rcases G2.u2 D z with z | z
     ·exact iK z
     ·rw [hD'] at z;cases z
    have nDB:D≠B:=λz=>by
     obtain ⟨vs,hB,_⟩:=L.hb;rw [z,s1 _ _ hB] at hD;cases hD
    refine r _ _ hD2 ⟨as++[p],w2,U2,xs2,by rw [bc];rfl,by rw [Μ,hal];rfl,L2.loc (λo e=>by rw [hD2] at e;exact ⟨_,(Δ e).symm⟩) nDB vB (λb o hb e=>by rw [Ye hb];exact e),G1.trans G2 λz hz=>?_,λz o hz e=>?_,vB,Yb,λj a' q' h1 h2=>?_,by omega,fJ.trans nk2⟩
    ·intro e
     exact hz (L1.back Mi e)
    ·rw [Ye (Yl e hD)]
     exact eX _ _ hz (bF _ _ hz e)
    ·by_cases c:j<as.length
     ·rw [av c] at h1
      exact G2.reg _ _ (hreg j a' q' h1 h2)
     ·have hj:j=as.length:=by
       have:=(Η.mp h1).1;rw [Μ,aE] at this
       omega
      subst hj;rw [ax (Κ _),gc] at h1
      have:p=a':=Δ h1;subst this;rw [hal,qH] at h2
      have:=Δ h2;subst this;exact hr2
   ·rintro D zs H' hD ⟨as,w1,U1,xs1,rfl,hal,L1,G1,bF,iK,hD',hreg,iW,fJ⟩
    rw [Β] at hal iW
    rw [am (by omega)] at iW
    exact hq D as H' w1 U1 xs1 L1 G1 ((Uk s1).trans bF) (s1.free hD) iK hD' ⟨by omega,hreg⟩ (by omega) fJ
 walk_at "rd"
 cases sh with
 | w lo span =>
  rw [kd] at hkd
  obtain ⟨b,vs,e,hT,hvs⟩:=Xe hkd;have:=V.ref.inj e;subst this;obtain ⟨u1,r1,rfl,h5,h6⟩:=YJ hvs;obtain ⟨u2,r2,rfl,h7,h8⟩:=YJ h6;obtain ⟨u3,r3,rfl,h9,h10⟩:=YJ h8;have:=XZ h10;subst this;have:=XI h5;subst this;have:=W0 h7;subst this;have:=W0 h9;subst this;refine ⟨_,hT,_,Yo (j:=0) rfl,YC _ _,Wg rfl ⟨_,hT,_,Yo (j:=1) rfl,_,hT,_,Yo (j:=2) rfl,λx bW hx hdx hne=>⟨x,bW,lo,span,rfl,Yb,λc H3 hc sb h3 h4=>⟨rfl,?_⟩⟩⟩⟩;obtain ⟨r1,r2,r3,r4⟩:=L.one L (.refl _ _ _) (λ_ _ _ e=>e) (XA hx hdx sb) hx (Y6 (Y6 hc)) (λz=>by rw [z,Yb] at hc;cases hc) (sh := .w lo span) h3 h4 hok hdp cR λw2 U2 _ _=>rfl
  have:=Vx (.w lo span);exact q x H3 _ _ xs r1 r2 r3 r4 (by omega) (.refl _)
 | row ps =>
  rw [kd] at hkd
  obtain ⟨v,hT,hv⟩:=Wn hkd;have hok':=hok;rw [aH] at hok'
  have hw':aO ps+1=wt (.row ps):=LK (sh := .row ps) rfl;refine ⟨_,hT,_,Yo (j:=0) rfl,YC _ _,Xd (by decide +kernel) ⟨YC _ _,Xd (by decide +kernel) (parts rfl _ _ λD as H1 w1 U1 xs1 L1 G1 bF gD iK hD1 hra iW fJ=>?_)⟩⟩;have iJ:∀ {b:Addr},H1 b=none->¬ U1 b:=λe z=>L1.bi.al _ z e
  have hal:as.length=ps.length:=hra.1;refine ⟨YC _ _,Wg rfl λx bW hx hdx hne=>⟨x,bW,D,as,rfl,Yb,by rw [Ye (Yl hD1 hx),Ye (Yl hD1 hdx)];exact hD1,by omega,λc T dt Lw ws H3 hc Mj hL hws hnd hwl sb h3 h4 hTT fH Ml=>⟨rfl,?_⟩⟩⟩;have s3:=XA hx hdx sb;have fr:∀ {b:Addr},upd (upd H1 bW (.own x)) x (.ins Z5 bW []) b=none->H1 b=none:=λe=>Y6 (Y6 e)
  have BW:∀ b∈c::ws,H1 b=none:=λb hb=>by
   rcases Ν.mp hb with rfl | hb
   ·exact fr hc
   ·exact fr (hws b hb)
  have los:∀ b∈c::ws,H3 b=some (.lst []):=λb hb=>by
   rcases Ν.mp hb with rfl | hb
   ·exact h4
   ·exact Ml b hb
  have N:New H1 H3 U1 x (c::ws) [x,D,T,Lw]:=by
   refine ⟨λb hb=>?_,.head _,hnd,λb hb hb'=>?_,λb o _ e=>s3 _ _ e,λb hb=>?_⟩
   ·rcases hb with hb | hb
    ·exact iJ (BW b hb)
    ·simp only [Ν,ς,or_false] at hb
     rcases hb with rfl | rfl | rfl | rfl
     ·exact iJ hx
     ·exact iK
     ·exact iJ (fr Mj)
     ·exact iJ (fr hL)
   ·have e1:=los b hb
    have e2:=BW b hb;simp only [Ν,ς,or_false] at hb';rcases hb' with rfl | rfl | rfl | rfl
    ·rw [h3] at e1;cases e1
    ·rw [hD1] at e2;cases e2
    ·rw [hTT] at e1;cases e1
    ·rw [fH] at e1
     injection e1 with e1
     injection e1 with e1
     have:=congrArg i7 e1;rw [Β,hwl] at this
     simp at this
   ·rcases hb with hb | hb
    ·rw [los b hb];intro z;cases z
    ·simp only [Ν,ς,or_false] at hb
     rcases hb with rfl | rfl | rfl | rfl
     ·rw [h3];intro z;cases z
     ·rw [s3 _ _ hD1];intro z;cases z
     ·rw [hTT];intro z;cases z
     ·rw [fH];intro z;cases z
  have hm:Wl (Cs.mk Z0 Z4 Z5 Z6 Z2 Z3 Z1 Z7) (w1.add x (.row ps) (c::ws)) (t0 (Ua U1 (c::ws) [x,D,T,Lw])) H3 x (.row ps):=by
   refine ⟨bW,c,fR D T,N.un L1.bi _ (.head _),by show _<=w1.M;rw [G1.M];exact hdp,λs hs=>by show sm (cnt w1.bk _ s);rw [L1.bk];exact vJ L.ob hok cR hs,ν _,h3,N.dat _ (i:=0) rfl,h4,D,T,dt,Lw,as,ws,rfl,N.un L1.bi _ (.tail _ (.head _)),N.un L1.bi _ (.tail _ (.tail _ (.head _))),N.un L1.bi _ (.tail _ (.tail _ (.tail _ (.head _)))),s3 _ _ hD1,(hra.grow (N.wg (H0:=λ_=>none) L1.bi _ λ_ _=>rfl)).toM,by omega,hTT,fH,by omega,λi y hy=>⟨N.dat _ (i:=i+1) (by simpa using hy),Κ _,ν _,Ml y (Ξ hy)⟩,λi s hs=>?_⟩
   show sm (YY w1.bk _ s)
   rw [L1.bk];have:=VV ps i;exact YhC L.ob (UX i hok'.2) (by omega) hs
  obtain ⟨r1,r2,r3,r4⟩:=L.fin L1 G1 bF s3 N (λb hb=>by
   rcases hb with hb | hb
   ·exact L1.back bF (BW b hb)
   ·simp only [Ν,ς,or_false] at hb
    rcases hb with rfl | rfl | rfl | rfl
    ·exact L1.back bF hx
    ·exact gD
    ·exact L1.back bF (fr Mj)
    ·exact L1.back bF (fr hL)) hm
  exact q x H3 _ _ xs1 r1 r2 r3 r4 (by omega) fJ
 | pick mk ps =>
  rw [kd] at hkd
  obtain ⟨v,hT,hv⟩:=Wn hkd;have hok':=hok;rw [aH] at hok'
  refine ⟨_,hT,_,Yo (j:=0) rfl,YC _ _,Xd (by decide +kernel) ⟨YC _ _,Xd (by decide +kernel) (parts rfl _ _ λD as H1 w1 U1 xs1 L1 G1 bF gD iK hD1 hra iW fJ=>?_)⟩⟩;have hal:as.length=ps.length:=hra.1;refine ⟨YC _ _,Xd (by decide +kernel) ⟨YC _ _,Wg rfl ?_⟩⟩;have lJ:=(Ve hk bF L.hd.at_).den;rw [kd] at lJ
  obtain ⟨v1,hT1,hv1⟩:=Wn lJ;obtain ⟨b,vs,rfl,hb,hvs⟩:=Xe hv1;obtain ⟨ts,bs,rfl,hl1,hl2,hts,hbs⟩:=VX hok'.1 hvs;have hlz:((mk.zip bs).map λp=>(V.str (S p.1),V.ref p.2)).length=bs.length:=by rw [Β,List.length_zip];omega
  refine Qs (K:=g.K) (b:=b) (xs:=ts.map V.ref) ((mk.zip bs).map λp=>(V.str (S p.1),V.ref p.2)) (mk.map λm=>V.str (S m)) (λR r=>by walk_at "rd";exact ⟨_,hT1,_,Yo (j:=1) rfl,r⟩) hb ?_ (by rw [hlz,Β];omega) (by rw [Β,Β];omega) (by rw [Β];omega) ?_ ?_
  ·intro i x p hx hp
   rw [Λ] at hx hp
   obtain ⟨T,hT',rfl⟩:=ε.mp hx;obtain ⟨⟨m,b'⟩,hz,rfl⟩:=ε.mp hp;rw [db] at hz
   exact ⟨T,rfl,hts i T m b' hT' hz.1 hz.2⟩
  ·intro i p y H' hp hy sm R r
   rw [Λ] at hp hy
   obtain ⟨⟨m,b'⟩,hz,rfl⟩:=ε.mp hp;rw [db] at hz
   rw [hz.1] at hy
   have:V.str (S m)=y:=Δ hy;subst this;walk_at "rd";exact r H' (.refl _)
  ·intro M H2 gM s2 hM x bW hx hdx hne
   have L2:=L1.same s2;have iJ:∀ {b:Addr},H2 b=none->¬ U1 b:=λe z=>L2.bi.al _ z e
   have hUM:¬ U1 M:=λz=>L1.bi.al _ z gM
   have hD2:=s2 _ _ hD1;refine ⟨x,bW,M,D,rfl,Yb,λc H3 hc sb h3 h4=>⟨rfl,?_⟩⟩;have s3:=XA hx hdx sb;have jR:=Y6 (Y6 hc);have N:New H2 H3 U1 x [c] [x,M,D]:=by
    refine ⟨λb hb=>?_,.head _,by simp,λb hb hb'=>?_,λb o _ e=>s3 _ _ e,λb hb=>?_⟩
    ·rcases hb with hb | hb
     ·rw [Φ.mp hb];exact iJ jR
     ·simp only [Ν,ς,or_false] at hb
      rcases hb with rfl | rfl | rfl
      ·exact iJ hx
      ·exact hUM
      ·exact iK
    ·have:=Φ.mp hb
     subst this;simp only [Ν,ς,or_false] at hb';rcases hb' with rfl | rfl | rfl
     ·rw [h3] at h4;cases h4
     ·rw [hM] at jR;cases jR
     ·rw [hD2] at jR;cases jR
    ·rcases hb with hb | hb
     ·rw [Φ.mp hb,h4];intro z;cases z
     ·simp only [Ν,ς,or_false] at hb
      rcases hb with rfl | rfl | rfl
      ·rw [h3];intro z;cases z
      ·rw [s3 _ _ hM];intro z;cases z
      ·rw [s3 _ _ hD2];intro z;cases z
   have hm:Wl (Cs.mk Z0 Z4 Z5 Z6 Z2 Z3 Z1 Z7) (w1.add x (.pick mk ps) [c]) (t0 (Ua U1 [c] [x,M,D])) H3 x (.pick mk ps):=⟨bW,c,fP M D,N.un L2.bi _ (.head _),by show _<=w1.M;rw [G1.M];exact hdp,λs hs=>by show sm (cnt w1.bk _ s);rw [L1.bk];exact vJ L.ob hok cR hs,ν _,h3,N.dat _ (i:=0) rfl,h4,M,D,as,rfl,N.un L2.bi _ (.tail _ (.head _)),N.un L2.bi _ (.tail _ (.tail _ (.head _))),s3 _ _ hM,s3 _ _ hD2,(hra.grow (N.wg (H0:=λ_=>none) L2.bi _ λ_ _=>rfl)).toC,by omega⟩;have eX:cN d H H2:=bF.trans (Uk s2);obtain ⟨r1,r2,r3,r4⟩:=L.fin L2 G1 eX s3 N (λb hb=>by
    rcases hb with hb | hb
    ·rw [Φ.mp hb];exact L2.back eX jR
    ·simp only [Ν,ς,or_false] at hb
     rcases hb with rfl | rfl | rfl
     ·exact L2.back eX hx
     ·exact L1.back bF gM
     ·exact gD) hm
   exact q x H3 _ _ xs1 r1 r2 r3 r4 (by omega) fJ
 | t sg =>
  rw [kd] at hkd
  obtain ⟨v,hT,hv⟩:=Wn hkd;have:=XI hv;subst this;have hok':=hok;rw [aH] at hok'
  refine ⟨_,hT,_,Yo (j:=0) rfl,YC _ _,Xd (by decide +kernel) ⟨YC _ _,Wg rfl ⟨_,hT,_,Yo (j:=1) rfl,λx bW hx hdx hne=>⟨x,bW,sg,rfl,Yb,λc H3 hc sb h3 h4=>⟨rfl,?_⟩⟩⟩⟩⟩;obtain ⟨r1,r2,r3,r4⟩:=L.one L (.refl _ _ _) (λ_ _ _ e=>e) (XA hx hdx sb) hx (Y6 (Y6 hc)) (λz=>by rw [z,Yb] at hc;cases hc) (sh := .t sg) h3 h4 hok hdp cR λw2 U2 _ _=>⟨rfl,hok'.2.1⟩
  have:=Vx (.t sg);exact q x H3 _ _ xs r1 r2 r3 r4 (by omega) (.refl _)
 | many s =>
  rw [kd] at hkd
  obtain ⟨v,hT,hv⟩:=Wn hkd;refine ⟨_,hT,_,Yo (j:=0) rfl,YC _ _,Xd (by decide +kernel) ⟨YC _ _,Xd (by decide +kernel) (parts rfl _ _ λD as H1 w1 U1 xs1 L1 G1 bF gD iK hD1 hra iW fJ=>?_)⟩⟩;obtain ⟨a1,rfl⟩:∃ a1,as=[a1]:=List.length_eq_one_iff.mp hra.1;have hga:=hra.2 0 a1 s rfl rfl;refine ⟨YC _ _,Xd (by decide +kernel) ⟨YC _ _,Xd (by decide +kernel) ⟨YC _ _,Wg rfl ⟨D,rfl,_,au.of hD1,_,Yo (j:=0) rfl,λx bW hx hdx hne=>⟨x,bW,a1,rfl,Yb,λc H3 hc sb h3 h4=>⟨rfl,?_⟩⟩⟩⟩⟩⟩;obtain ⟨r1,r2,r3,r4⟩:=L.one L1 G1 bF (XA hx hdx sb) hx (Y6 (Y6 hc)) (λz=>by rw [z,Yb] at hc;cases hc) (sh := .many s) h3 h4 hok hdp cR λw2 U2 g _=>⟨a1,rfl,g _ _ hga,ν _⟩
  exact q x H3 _ _ xs1 r1 r2 r3 r4 (by omega) fJ
 | alike s n =>
  rw [kd] at hkd
  obtain ⟨v,hT,hv⟩:=ug hkd;have hok':=hok;rw [aH] at hok'
  refine ⟨_,hT,_,Yo (j:=0) rfl,YC _ _,Xd (by decide +kernel) ⟨YC _ _,Xd (by decide +kernel) (parts rfl _ _ λD as H1 w1 U1 xs1 L1 G1 bF gD iK hD1 hra iW fJ=>?_)⟩⟩;obtain ⟨a1,rfl⟩:∃ a1,as=[a1]:=List.length_eq_one_iff.mp hra.1;have hga:=hra.2 0 a1 s rfl rfl;have lJ:=(Ve hk bF L.hd.at_).den;rw [kd] at lJ
  obtain ⟨v1,hT1,_⟩:=ug lJ;refine ⟨YC _ _,Xd (by decide +kernel) ⟨YC _ _,Xd (by decide +kernel) ⟨YC _ _,Xd (by decide +kernel) ⟨YC _ _,Wg rfl ⟨D,rfl,_,au.of hD1,_,Yo (j:=0) rfl,_,hT1,_,Yo (j:=2) rfl,λx bW hx hdx hne=>⟨x,bW,a1,n,rfl,Yb,λc H3 hc sb h3 h4=>⟨rfl,?_⟩⟩⟩⟩⟩⟩⟩;obtain ⟨r1,r2,r3,r4⟩:=L.one L1 G1 bF (XA hx hdx sb) hx (Y6 (Y6 hc)) (λz=>by rw [z,Yb] at hc;cases hc) (sh := .alike s n) h3 h4 hok hdp cR λw2 U2 g _=>⟨⟨a1,rfl,g _ _ hga,kb (Nat.zero_div _)⟩,hok'.2⟩
  exact q x H3 _ _ xs1 r1 r2 r3 r4 (by omega) fJ
 | use x=>exact absurd rfl hki
theorem Wl.R3 {C:Cs} {w:Wo} {t:Sw} {H:Hp} {p r cl fX:Addr} {fp:List (Str×V)} {o:HO} {sh:Sh} {cp:Addr} (hp:H p=some (.ins cl fX (mf cp fp))) (hD:w.D p=none) (n:r≠p) (h:Wl C w t H r sh):Wl C w t (upd H p o) r sh:=by
 obtain ⟨dx,c,fs,h1,h2,h3,h4,h5,h6,h7,h8⟩:=h;have no:∀ {b:Addr} {x:Addr×Nat},w.D b=some x->b≠p:=λe z=>by rw [z,hD] at e;cases e
 have nl:∀ {b:Addr} {vs:List V},H b=some (.lst vs)->b≠p:=λe z=>by rw [z,hp] at e;cases e
 refine ⟨dx,c,fs,h1,h2,h3,h4,(Ye n).trans h5,h6,(Ye (no h6)).trans h7,?_⟩
 cases sh with
 | w lo span=>exact h8
 | t sg=>exact h8
 | many q=>exact h8
 | alike q n=>exact h8
 | row ps =>
  obtain ⟨P,T,dt,L,as,ws,k1,k2,k3,k4,k5,k6,k7,k8,k9,k10,k11,k12⟩:=h8;have nT:T≠p:=λz=>by
   rw [z,hp] at k8
   have e:=Δ k8
   injection e with _ _ e
   unfold mf Wy at e
   injection e with e _
   injection e with e _
   exact n1 (a:=("counts":Str)) (b:=("parts":Str)) (by decide +kernel) e
  refine ⟨P,T,dt,L,as,ws,k1,k2,k3,k4,(Ye (nl k5)).trans k5,k6,k7,(Ye nT).trans k8,(Ye (nl k9)).trans k9,k10,λi x hx=>?_,k12⟩;obtain ⟨j1,j2,j3,j4⟩:=k11 i x hx;exact ⟨j1,j2,j3,(Ye (no j1)).trans j4⟩
 | pick mk ps =>
  obtain ⟨M,P,as,k1,k2,k3,k4,k5,k6,k7⟩:=h8;exact ⟨M,P,as,k1,k2,k3,(Ye (nl k4)).trans k4,(Ye (nl k5)).trans k5,k6,k7⟩
 | use x=>exact h8
theorem BI.close {C:Cs} {w:Wo} {U O O':Addr->Prop} {H:Hp} (B:BI C w U O' H) {p q:Addr} {x:List Nat} (hO:∀ r,r≠p->(O' r↔O r)) (hp':O' p) (hr:w.reg p=some (.use x)) (hq:w.reg q=some (w.bk x)):∃ dx c,H p=some (.ins C.use dx (mf c (fU .non)))/\(¬ O p->BI C w U O (upd H p (.ins C.use dx (mf c (fU (.ref q)))))):=by
 obtain ⟨x',dx,c,e1,e2,e3,e4,e5,e6⟩:=B.op p hp';rw [hr] at e1
 have:=Sh.use.inj (Δ e1);subst this;refine ⟨dx,c,e4,λnO=>⟨λr s hrs ho=>?_,λr hor=>?_,λb hb=>?_,B.ow,B.oo,B.inj⟩⟩
 ·by_cases cc:r=p
  ·subst cc
   rw [hr] at hrs
   have:=Δ hrs;subst this;have BX:c≠r:=λz=>by rw [z,e2.1] at e5;cases e5
   exact ⟨dx,c,_,e2,by simp [dep],e3,ν _,Yb,e5,(Ye BX).trans e6,q,rfl,hq,ν _⟩
  ·exact (B.at_ r s hrs λz=>ho ((hO r cc).mp z)).R3 e4 e2.1 cc
 ·have cc:r≠p:=λz=>nO (by rw [<- z];exact hor)
  obtain ⟨y,dy,cy,f1,f2,f3,f4,f5,f6⟩:=B.op r ((hO r cc).mpr hor);have BX:cy≠p:=λz=>by rw [z,e2.1] at f5;cases f5
  exact ⟨y,dy,cy,f1,f2,f3,(Ye cc).trans f4,f5,(Ye BX).trans f6⟩
 ·by_cases cc:b=p
  ·rw [cc,Yb];intro z;cases z
  ·rw [Ye cc];exact B.al b hb
section
variable {P0:δ} {w0:ι} {K:Θ} {C:Cs} {CL:Addr} {prs:aR} {w:Wo} {U O O':Addr->Prop} {H H':Hp} {ls dx d B:Addr} {xs:Dx}
theorem LS.close (L:LS P0 w0 K C CL prs w U O' H ls dx d B xs) {p q:Addr} {x:List Nat} (hO:∀ r,r≠p->(O' r↔O r)) (hp':O' p) (nO:¬ O p) (hr:w.reg p=some (.use x)) (hq:w.reg q=some (w.bk x)) (nls:ls≠p):∃ fX c,H p=some (.ins C.use fX (mf c (fU .non)))/\LS P0 w0 K C CL prs w U O (upd H p (.ins C.use fX (mf c (fU (.ref q))))) ls dx d B xs:=by
 obtain ⟨fX,c,h1,h2⟩:=L.bi.close hO hp' hr hq;have hk:∀ b o,b≠p->H b=some o->upd H p (.ins C.use fX (mf c (fU (.ref q)))) b=some o:=λb o n e=>(Ye n).trans e
 have tk:X7 H (upd H p (.ins C.use fX (mf c (fU (.ref q))))):=Wv hk h1 (by intro xs z;cases z) (by intro o v z;cases z);obtain ⟨vs,hB,_⟩:=L.hb;exact ⟨fX,c,h1,hk _ _ nls L.hl,L.hb.bO tk λo e=>hk _ _ (Y8 hB h1 (by intro z;cases z)) e,L.hd.keep tk (hk _ _ (Y8 L.hd.at_ h1 (by intro z;cases z)) L.hd.at_),h2 nO,L.nd,L.nl,L.keys,L.bk,L.ob,L.M2⟩
theorem LS.put (L:LS P0 w0 K C CL prs w U O H ls dx d B xs) {a p:Addr} {sh:Sh} (hk:DK K H a (kd sh)) (hok:aH prs sh) (hn:aK xs (kd sh)=none) (hl:xs.length<1000) (hr:w.reg p=some sh):LS P0 w0 K C CL prs w U O (upd H d (cg P0 w0 d (xs++[(kd sh,a,p)]))) ls dx d B (xs++[(kd sh,a,p)]):=by
 have hkk:∀ b o,b≠d->H b=some o->upd H d (cg P0 w0 d (xs++[(kd sh,a,p)])) b=some o:=λb o n e=>(Ye n).trans e
 have tk:X7 H (upd H d (cg P0 w0 d (xs++[(kd sh,a,p)]))):=Wv hkk L.hd.at_ (by intro xs z;cases z) (by intro o v z;cases z);obtain ⟨vs,hB,_⟩:=L.hb;refine ⟨hkk _ _ (Y8 L.hl L.hd.at_ (by intro z;cases z)) L.hl,L.hb.bO tk λo e=>hkk _ _ (Y8 hB L.hd.at_ (by intro z;cases z)) e,L.hd.put hk hn hl,L.bi.keep λb o hb e=>hkk b o (λz=>L.nd (by rw [<- z];exact hb)) e,L.nd,L.nl,λe he=>?_,L.bk,L.ob,L.M2⟩;rcases a6.mp he with he | he
 ·exact L.keys e he
 ·have:=Φ.mp he
  subst this;exact ⟨sh,rfl,hok,hr⟩
theorem LS.bA (L:LS P0 w0 K C CL prs w U O H ls dx d B xs) {a p:Addr} {sh:Sh} (hk:DK K H a (kd sh)) (hok:aH prs sh) (hl:xs.length<1000) (hr:w.reg p=some sh):LS P0 w0 K C CL prs w U O (upd H d (cg P0 w0 d (L2.bA xs (kd sh) a p))) ls dx d B (L2.bA xs (kd sh) a p):=by
 have hkk:∀ b o,b≠d->H b=some o->upd H d (cg P0 w0 d (L2.bA xs (kd sh) a p)) b=some o:=λb o n e=>(Ye n).trans e
 have tk:X7 H (upd H d (cg P0 w0 d (L2.bA xs (kd sh) a p))):=Wv hkk L.hd.at_ (by intro xs z;cases z) (by intro o v z;cases z);obtain ⟨vs,hB,_⟩:=L.hb;refine ⟨hkk _ _ (Y8 L.hl L.hd.at_ (by intro z;cases z)) L.hl,L.hb.bO tk λo e=>hkk _ _ (Y8 hB L.hd.at_ (by intro z;cases z)) e,L.hd.bA hk hl,L.bi.keep λb o hb e=>hkk b o (λz=>L.nd (by rw [<- z];exact hb)) e,L.nd,L.nl,λe he=>?_,L.bk,L.ob,L.M2⟩;rcases Yfg he with he | ⟨h1,h2⟩
 ·exact L.keys e he
 ·exact ⟨sh,h1,hok,by rw [h2];exact hr⟩
theorem LS.opened (L:LS P0 w0 K C CL prs w U O H ls dx d B xs) (s:Yk H H') {p fX c:Addr} {x:List Nat} (hx:H p=none) (hc:H c=none) (hok:aH prs (.use x)) (h3:H' p=some (.ins C.use fX (mf c (fU .non)))) (h4:H' c=some (.lst [])) :
  LS P0 w0 K C CL prs (w.add p (.use x) [c]) (Ua U [c] [p]) (λr=>O r\/r=p) H' ls dx d B xs/\WG w (w.add p (.use x) [c]) U (Ua U [c] [p]) H/\(w.add p (.use x) [c]).reg p=some (.use x):=by
 have nU:∀ {b:Addr},H b=none->¬ U b:=λe z=>L.bi.al _ z e
 have N:New H H' U p [c] [p]:=by
  refine ⟨λb hb=>?_,.head _,by simp,λb hb hb'=>?_,λb o _ e=>s _ _ e,λb hb=>?_⟩
  ·rcases hb with hb | hb
   ·rw [Φ.mp hb];exact nU hc
   ·rw [Φ.mp hb];exact nU hx
  ·have e1:=Φ.mp hb
   have e2:=Φ.mp hb';rw [<- e1,e2,h3] at h4
   cases h4
  ·rcases hb with hb | hb
   ·rw [Φ.mp hb,h4];intro z;cases z
   ·rw [Φ.mp hb,h3];intro z;cases z
 have h0:∀ b,b∈[c]\/b∈[p]->H b=none:=λb hb=>by
  rcases hb with hb | hb
  ·rw [Φ.mp hb];exact hc
  ·rw [Φ.mp hb];exact hx
 have G:=N.wg L.bi (.use x) h0;have nd:∀ {z:Addr} {o:HO},H z=some o->¬ (z=c\/z=p):=λe h=>by
  rcases h with h | h
  ·rw [h,hc] at e;cases e
  ·rw [h,hx] at e;cases e
 have bi:BI C (w.add p (.use x) [c]) (Ua U [c] [p]) (λr=>O r\/r=p) H':=N.bi L.bi (λr hr=>⟨λz=>z.resolve_right hr,.inl⟩) (λz=>absurd (.inr rfl) z) (λ_=>⟨x,fX,c,rfl,N.un L.bi _ (.head _),λs' hs=>by rw [L.bk];exact vJ L.ob hok (by simp [wt]) hs,h3,N.dat _ (i:=0) rfl,h4⟩);have out:∀ {z:Addr} {o:HO},H z=some o->¬ U z->¬ Ua U [c] [p] z:=λe hU h=>by
  rcases h with h | h | h
  ·exact hU h
  ·exact nd e (.inl (Φ.mp h))
  ·exact nd e (.inr (Φ.mp h))
 refine ⟨⟨s _ _ L.hl,L.hb.bO (Wu s) λo e=>s _ _ e,L.hd.keep (Wu s) (s _ _ L.hd.at_),bi,out L.hd.at_ L.nd,out L.hl L.nl,λe he=>?_,L.bk,L.ob,L.M2⟩,G,if_pos rfl⟩;obtain ⟨s',h1,h2,h3⟩:=L.keys e he;exact ⟨s',h1,h2,G.reg _ _ h3⟩
end
theorem YhD {xs:Dx} {d:Γ} {a p:Addr} (hn:aK xs d=none):Mo xs (xs++[(d,a,p)]):=λe h=>by
 rw [WV _ _ _ _ _ hn]
 split
 ·intro z;cases z
 ·exact h
theorem YgN {xs:Dx} {d:Γ} {a p:Addr}:Mo xs (L2.bA xs d a p):=λe h=>by
 rw [Jg]
 split
 ·intro z;cases z
 ·exact h
theorem YeB (c:Addr) (v v':V):YW "named" v' (mf c (fU v))=mf c (fU v'):=by
 show YW "named" v' [(("counts":Str),V.ref c),(("named":Str),v)]=_
 simp only [YW,if_neg (n1 (a:=("counts":Str)) (b:=("named":Str)) (by decide +kernel))];rfl
theorem Mp {k:Nat} {Z1 Z9 Z3 Z2 Z5 Z6 Z4 Z7 Z0:Addr} (R:g.aD Z9 "add_use" "Lister.add_use" zT ["self","shape"]) (o9:g.Fn k "shape_of" ["book","name"] (Ly g.K)) (qG:g.Me k Z9 "maker_of" ["self","shape"] (lH g.P g.w g.K (Cs.mk Z0 Z4 Z5 Z6 Z2 Z3 Z1 Z7) Z9 m)) {dw:Nat} (Z4X:g.Ma dw "UseMaker" Z7 ["self"] (Lg (Cs.mk Z0 Z4 Z5 Z6 Z2 Z3 Z1 Z7))) (pP:dw+1<=k) (ZH:Cls g.K Z9) (ZJ:Yg g.K Z9 "book") (Zu:Yg g.K Z9 "makers") (Ze:Cls g.K Z7) (Zv:Yg g.K Z7 "counts") (Zn:Yg g.K Z7 "named"):g.Me (k+1) Z9 "add_use" ["self","shape"] (vI g.P g.w g.K (Cs.mk Z0 Z4 Z5 Z6 Z2 Z3 Z1 Z7) Z9 (m+1)):=by
 refine R.me Jq (λvs H Q E h=>by obtain ⟨prs,w,U,O,ls,dx,d,B,a,x,xs,rfl,L,hk,hok,hno,gJ,hl1,hl8,q⟩:=h;rfl) λf_ cdv A outer s H vs Q E hr h=>?_
 obtain ⟨prs,w,U,O,ls,dx,d,B,a,x,xs,rfl,L,hk,hok,hno,gJ,hl1,hl8,q⟩:=h;refine ⟨_,(Yf (Yp (i:=2) Jq.nd rfl (.inl rfl) (Yhr Z4X hr (by omega) (by rfl) (by rfl) (by decide))) (Yf (Ye9 hr (Yx (pv 0) rfl) (pv 1) (pv 2) rfl) (Yi (Xa (pv 2) (Xz qG ZH hr (pv 0) (Ya (YA o9 hr (Ya (Yx (pv 0) rfl) (Ya (Yr YD (pv 1) Yh) Yd))) Yd)) rfl)))),?_⟩;walk_at "rd";intro p fX gp gdx hne;refine ⟨p,fX,rfl,Yb,λc H1 hc sb h3 h4=>⟨rfl,?_⟩⟩;have s1:=XA gp gdx sb;have jR:=Y6 (Y6 hc);obtain ⟨L1,G1,hr1⟩:=L.opened (x:=x) s1 gp jR hok h3 h4;have qI:=hk.keep s1;have L2:=L1.put qI hok hno (by omega) hr1;have eX:cN d H (upd H1 d (cg g.P g.w d (xs++[(kd (.use x),a,p)]))):=λb o hb e=>by rw [Ye hb];exact s1 _ _ e
 have dk2:=Ve hk eX L.hd.at_;have hkd:=dk2.den;rw [kd] at hkd
 obtain ⟨v,hT2,hv⟩:=Wn hkd;have:=XI hv;subst this;have hok':=hok;rw [aH] at hok'
 obtain ⟨q0,qJ⟩:=hok';obtain ⟨eb,hm0⟩:=QX qJ;have Mq:Mo xs (xs++[(kd (.use x),a,p)]):=YhD hno;have less:=YgL Mq ⟨q0,qJ⟩ hno (by rw [WV _ _ _ _ _ hno,if_pos rfl];intro z;cases z);unfold IV;walk_at "rd";refine ⟨_,_,_,L1.hl,ZH,Zu,_,Wc _ _,d,rfl,xs,L1.hd,kd (.use x),qI,hno,by omega,?_⟩;refine ⟨_,_,L2.hl,Qt _ _ (by decide +kernel) (by decide +kernel),_,_,_,L2.hl,ZH,ZJ,_,YgK _ _,_,hT2,_,Yo (j:=1) rfl,prs,B,x,q0,rfl,L2.hb,qJ,λb dkb=>?_⟩;have hw0:=L.ob.wt q0 hm0;have hd0:=L.ob.dp q0 hm0;have hM:=L2.M2;refine ⟨prs,_,_,_,ls,dx,d,B,b,q0.2,_,rfl,L2,dkb,L.ob.ok q0 hm0,by rw [hM];exact hd0,by omega,by rw [Μ,aE];omega,by omega,λq' H3 w3 U3 xs3 L3 G3 uM hr3 R4 Mr=>?_⟩;have np:p≠d:=λz=>by rw [z,L.hd.at_] at gp;cases gp
 have BR:¬ O p:=λz=>by
  obtain ⟨_,_,_,_,h,_⟩:=L.bi.op p z;exact L.bi.al _ h.2 gp
 have hg3:=G3.reg _ _ hr1;obtain ⟨ag3,c',hp3,L4⟩:=L3.close (p:=p) (q:=q') (x:=x) (O:=O) (λr hr'=>⟨λz=>z.resolve_right hr',.inl⟩) (.inr rfl) BR hg3 (by rw [L3.bk,eb];exact hr3) (Yl L.hl gp);refine ⟨_,_,_,hp3,Ze,Zn,Xw (show 2<=3 by decide),?_⟩;rw [YeB];refine q _ w3 U3 xs3 L4 (G1.trans G3 λz hz=>?_) (λz o hz e=>?_) (Mr _ (by rw [WV _ _ _ _ _ hno,if_pos rfl];intro z;cases z)) ?_ (Mq.trans Mr)
 ·intro e
  exact hz (L2.back eX e)
 ·rw [Ye (Yl e gp)]
  exact uM _ _ hz (eX _ _ hz e)
 ·rw [Μ,aE] at R4
  omega
theorem YgO {K:Θ} {H:Hp} {a:Addr} {sh:Sh} (h:Den K H (.ref a) (kd sh)):∃ r,aJ K H a (.str (vG (kd sh))::r):=by
 obtain ⟨ds,hd⟩:=Qr sh;have hm:∃ r,ds = .str (vG (kd sh))::r:=by
  cases sh<;>(rw [kd] at hd ⊢;injection hd with hd;exact ⟨_,hd.symm⟩)
 obtain ⟨r,rfl⟩:=hm;rw [hd] at h
 obtain ⟨b,vs,e,h1,h2⟩:=Xe h;have:=V.ref.inj e;subst this;obtain ⟨u,r',rfl,h3,_⟩:=YJ h2;have:=XI h3;subst this;exact ⟨r',h1⟩
theorem Ms {k:Nat} {Z1 Z9 Z3 Z2 Z5 Z6 Z4 Z7 Z0:Addr} (R:g.aD Z9 "maker_of" "Lister.maker_of" zR ["self","shape"]) (Z5K:g.Me k Z9 "add_use" ["self","shape"] (vI g.P g.w g.K (Cs.mk Z0 Z4 Z5 Z6 Z2 Z3 Z1 Z7) Z9 m)) (Z5b:g.Me k Z9 "new_maker" ["self","shape"] (ju g.P g.w g.K (Cs.mk Z0 Z4 Z5 Z6 Z2 Z3 Z1 Z7) Z9 m)) (ZH:Cls g.K Z9) (ZJ:Yg g.K Z9 "book") (Zu:Yg g.K Z9 "makers"):g.Me (k+1) Z9 "maker_of" ["self","shape"] (lH g.P g.w g.K (Cs.mk Z0 Z4 Z5 Z6 Z2 Z3 Z1 Z7) Z9 (m+1)):=by
 refine R.me Z59 (λvs H Q E h=>by obtain ⟨prs,w,U,O,ls,dx,d,B,a,sh,xs,rfl,L,hk,hok,hdp,cR,gJ,hnm,q⟩:=h;rfl) λf_ cdv A outer s H vs Q E hr h=>?_
 obtain ⟨prs,w,U,O,ls,dx,d,B,a,sh,xs,rfl,L,hk,hok,hdp,cR,gJ,hnm,q⟩:=h;refine ⟨_,(Yf (YF (Yq (Ydf hr) (pv 1) (Yx (pv 0) rfl) rfl) (Yi (YF (Yq YL (Yr YD (pv 1) Yh) YO (Ys _)) (Yi (Y9 (Xz Z5K ZH hr (pv 0) (Ya (pv 1) Yd)))) (Yi (Yfh hr (Yx (pv 0) rfl) (pv 1) (Xz Z5b ZH hr (pv 0) (Ya (pv 1) Yd)) rfl)))) Yw) (Yi (Yn (Ye8 hr (Yx (pv 0) rfl) (pv 1) (λ_ _=>rfl))))),?_⟩;walk_at "rd";refine ⟨_,_,_,L.hl,ZH,Zu,_,Wc _ _,d,rfl,xs,L.hd,kd sh,hk,?_⟩;have wp:=Vx sh
 cases hlk:aK xs (kd sh) with
 | some p =>
  refine Xd (by simp) ?_;unfold Qq;walk_at "rd";exact ⟨_,_,_,L.hl,ZH,Zu,_,Wc _ _,d,rfl,xs,L.hd,kd sh,hk,p,hlk,q p H w U xs L (.refl _ _ _) (λ_ _ _ e=>e) (L.reg hok hlk) (by omega) (.refl _)⟩
 | none =>
  refine Wg rfl ?_;obtain ⟨r,hT⟩:=YgO hk.den;refine ⟨_,hT,_,Yo (j:=0) rfl,YC _ _,?_⟩;by_cases c:∃ x,sh = .use x
  ·obtain ⟨x,rfl⟩:=c
   have e6:wt (.use x)=1:=by simp [wt]
   have e7:dep (.use x)=0:=by simp [dep]
   refine Wg (by rw [kd];rfl) ⟨_,_,L.hl,Qt _ _ (by decide +kernel) (by decide +kernel),prs,w,U,O,ls,dx,d,B,a,x,xs,rfl,L,hk,hok,hlk,by omega,by omega,by omega,λH' w' U' xs' L' G' fr' hl' hlen nk=>?_⟩;unfold Qq;walk_at "rd";obtain ⟨p,hp⟩:=Option.ne_none_iff_exists'.mp hl';exact ⟨_,_,_,L'.hl,ZH,Zu,_,Wc _ _,d,rfl,xs',L'.hd,kd (.use x),Ve hk fr' L.hd.at_,p,hp,q p H' w' U' xs' L' G' fr' (L'.reg hok hp) (by omega) nk⟩
  ·have hki:kind sh≠5:=by
    cases sh with
    | use x=>exact absurd ⟨x,rfl⟩ c
    | _=>simp [kind]
   refine Xd (λz=>c ?_) ?_
   ·have z:=V.str.inj z
    cases sh with
    | use x=>exact ⟨x,rfl⟩
    | _=>exact absurd z (by simp only [kd,vG];decide +kernel)
   ·unfold Jh
    walk_at "rd";refine ⟨_,_,L.hl,Qt _ _ (by decide +kernel) (by decide +kernel),prs,w,U,O,ls,dx,d,B,a,sh,xs,rfl,L,hk,hok,hki,hdp,cR,gJ,by omega,λp H1 w1 U1 xs1 L1 G1 bF hr1 hl1 fJ=>?_⟩;have qI:=Ve hk bF L.hd.at_;have LL:=L1.bA qI hok (by omega) hr1;have eX:cN d H (upd H1 d (cg g.P g.w d (_root_.L2.bA xs1 (kd sh) a p))):=λb o hb e=>by rw [Ye hb];exact bF _ _ hb e
    have Mt:Mo xs1 (_root_.L2.bA xs1 (kd sh) a p):=YgN;have hnn:=QY (prs:=prs) Mt;have hpl:=Yff xs1 (kd sh) a p;refine ⟨_,_,_,L1.hl,ZH,Zu,_,Wc _ _,d,a,xs1,kd sh,p,rfl,rfl,rfl,L1.hd,qI,by omega,?_⟩;unfold Qq;walk_at "rd";refine ⟨_,_,_,LL.hl,ZH,Zu,_,Wc _ _,d,rfl,_,LL.hd,kd sh,Ve hk eX L.hd.at_,p,by rw [Jg,if_pos rfl],q p _ w1 U1 _ LL G1 eX hr1 (by omega) (fJ.trans Mt)⟩
def MW (C:Cs) (prs:aR) (M:Nat) (H H':Hp) (p:Addr) (sh:Sh):Prop:=∃ (w:Wo) (U:Addr->Prop),WI C w (t0 U) H'/\w.reg p=some sh/\w.bk=aF prs/\w.M=M/\Yk H H'/\∀ b,U b->H b=none
inductive Mu (K:Θ) (C:Cs) (vs:List V) (H:Hp) (Q:VK) (E_:XK):Prop
 | mk (prs:aR) (B a:Addr) (sh:Sh) (h0:vs=[.ref B,.ref a]) (h1:WQ K H B prs) (h2:DK K H a (kd sh)) (h3:aH prs sh) (h4:jt prs) (h5:wt sh<=24) (h6:dep sh<=2) (h7:∀ p H',MW C prs 2 H H' p sh->Q (.ref p) H')
theorem Ybm {k:Nat} {Z1 Z9 Z3 Z2 Z5 Z6 Z4 Z7 Z0:Addr} (R:g.Raw "maker_for" "maker_for" zq ["book","shape"]) {d9:Nat} (Z5p:g.Ma d9 "Lister" Z9 ["self","book"] (Lx g.P g.w Z9)) (sJ:d9+1<=k) (qG:g.Me k Z9 "maker_of" ["self","shape"] (lH g.P g.w g.K (Cs.mk Z0 Z4 Z5 Z6 Z2 Z3 Z1 Z7) Z9 60)) (ZH:Cls g.K Z9) (ZJ:Yg g.K Z9 "book") (Zu:Yg g.K Z9 "makers"):g.Fn (k+1) "maker_for" ["book","shape"] (Mu g.K (Cs.mk Z0 Z4 Z5 Z6 Z2 Z3 Z1 Z7)):=by
 refine R.fn Ya5 (λvs H Q E h=>by obtain ⟨prs,B,a,sh,rfl,hB,hk,hok,ob,cR,hdp,q⟩:=h;rfl) λf_ cdv A outer s H vs Q E hr h=>?_
 obtain ⟨prs,B,a,sh,rfl,hB,hk,hok,ob,cR,hdp,q⟩:=h;refine ⟨_,(Yi (Yn (Xz qG ZH hr (WS Z5p hr (Ya (pv 0) Yd)) (Ya (pv 1) Yd)))),?_⟩;walk_at "rd";intro ls BZ gl gdl hne;refine ⟨ls,BZ,.ref B,rfl,Yb,λd H1 gd sb h1 h2=>⟨rfl,_,_,h1,Qt _ _ (by decide +kernel) (by decide +kernel),?_⟩⟩;have s1:=XA gl gdl sb;have gd':=Y6 (Y6 gd);have hnn:=Ez (prs:=prs) (xs:=[]);have hpl:=ob.len;have bi:BI (Cs.mk Z0 Z4 Z5 Z6 Z2 Z3 Z1 Z7) ⟨aF prs,λ_=>none,λ_=>none,2⟩ (λ_=>False) (λ_=>False) H1:=⟨λp s' h=>(by cases h),λp h=>h.elim,λb h=>h.elim,λb x h=>(by cases h),λb q i h=>(by cases h),λb b' x h=>(by cases h)⟩;have L1:LS g.P g.w g.K (Cs.mk Z0 Z4 Z5 Z6 Z2 Z3 Z1 Z7) Z9 prs ⟨aF prs,λ_=>none,λ_=>none,2⟩ (λ_=>False) (λ_=>False) H1 ls BZ d B []:=⟨h1,hB.bO (Wu s1) λo e=>s1 _ _ e,Yee h2,bi,λz=>z,λz=>z,λe he=>(by cases he),rfl,ob,rfl⟩;refine ⟨prs,_,_,_,ls,BZ,d,B,a,sh,[],rfl,L1,hk.keep s1,hok,hdp,by omega,by rw [iX];omega,by omega,λp H2 w2 U2 xs2 L2 G2 eX hr2 _ _=>q p H2 ⟨w2,U2,L2.bi.wi λ_ h=>h,hr2,L2.bk,G2.M,λb o e=>eX _ _ (Yl e gd') (s1 _ _ e),λb hb=>?_⟩⟩;rcases G2.u2 b hb with z | z
 ·exact z.elim
 ·exact s1.free z
def aL:List (Int×Int)->Int->Nat×Int×Int
 | [],n=>(0,n,0)
 | p::ps,n=>if p.1*p.2<=n then ((aL ps (n - p.1*p.2)).1+1,(aL ps (n - p.1*p.2)).2) else (0,n / p.2,n%p.2)
def jT (pl:Nat) (c r:Int):List (Str×V):=[("place",.int pl),("choice",.int c),("rest",.int r)]
inductive Mv (C:Addr) (vs:List V) (H:Hp) (Q:VK) (E_:XK):Prop
 | mk (p dx:Addr) (pl:Nat) (c r:Int) (h0:vs=[.ref p,.int pl,.int c,.int r]) (h1:H p=some (.ins C dx [])) (h2:∀ H',SameBut p H H'->H' p=some (.ins C dx (jT pl c r))->Q .non H')
theorem R5:¬ (("place":Str)="choice"):=by decide +kernel
theorem R6:¬ (("place":Str)="rest"):=by decide +kernel
theorem R7:¬ (("choice":Str)="rest"):=by decide +kernel
theorem YgP (pl:Nat) (c r:Int):YW "rest" (.int r) (YW "choice" (.int c) (YW "place" (.int pl) []))=jT pl c r:=by
 simp only [YW,if_neg R5,if_neg R6,if_neg R7];rfl
theorem Z5q {Zl:Addr} (R:g.bH "Found" Zl "Found.__init__" Az ["self","place","choice","rest"]) (ZL:Cls g.K Zl) (ZG:Yg g.K Zl "place") (ZI:Yg g.K Zl "choice") (ZT:Yg g.K Zl "rest"):g.Ma (1) "Found" Zl ["self","place","choice","rest"] (Mv Zl):=by
 refine R.ma Z5l (λvs H Q E h=>by obtain ⟨p,dx,pl,c,r,rfl,hp,q⟩:=h;rfl) λf_ cdv A outer s H vs Q E hr h=>?_
 obtain ⟨p,dx,pl,c,r,rfl,hp,q⟩:=h;refine ⟨_,(Yf (Xa (pv 0) (pv 1) rfl) (Yf (Xa (pv 0) (pv 2) rfl) (Yi (Xa (pv 0) (pv 3) rfl)))),?_⟩;walk_at "rd";refine ⟨_,dx,_,hp,ZL,ZG,by decide,_,dx,_,Yb,ZL,ZI,Xw (Τ (Xp _ _ _) (show 1<=3 by decide)),_,dx,_,Yb,ZL,ZT,Xw (Τ (Xp _ _ _) (cq (Τ (Xp _ _ _) (show 1<=2 by decide)))),?_⟩;refine q _ (λx o hx h=>by rw [Ye hx,Ye hx,Ye hx];exact h) ?_;rw [Yb];exact congrArg some (congrArg (HO.ins _ _) (YgP pl c r))
structure big (a b:Int):Prop where
 ex:∃ N:Nat,N<=8999/\a.natAbs<2^N/\b.natAbs<2^N
def Xm (ps:List (Int×Int)):Int:=(ps.map λp=>p.1*p.2).sum
theorem WN (p:Int×Int) (ps:List (Int×Int)):Xm (p::ps)=p.1*p.2+Xm ps:=by simp [Xm]
theorem Q0 {α:Type} {ps:List α} {i:Nat} {p:α} (h:ps[i]?=some p):ps.drop i=p::ps.drop (i+1):=by
 obtain ⟨hi,e⟩:=Η.mp h;rw [List.drop_eq_getElem_cons hi,e]
inductive vK (K:Θ) (C:Addr) (vs:List V) (H:Hp) (Q:VK) (E_:XK):Prop
 | mk (D:Addr) (ps:List (Int×Int)) (n:Int) (h0:vs=[.ref D,.int n]) (h1:Blk H D ps) (h2:ps.length<=1000) (h3:(∀ p∈ps,big p.1 p.2)) (h4:(∀ p∈ps,0<=p.1/\0<=p.2)) (h5:0<=n) (h6:n<Xm ps) (h7:∀ f dx H',Yk H H'->H f=none->H' f=some (.ins C dx (jT (aL ps n).1 (aL ps n).2.1 (aL ps n).2.2))->Q (.ref f) H')
theorem YbM {k:Nat} {Zl:Addr} (R:g.Raw "found_in" "found_in" zm ["blocks","number"]) {eY:Nat} (Z5L:g.Ma eY "Found" Zl ["self","place","choice","rest"] (Mv Zl)) (um:eY+1<=k):g.Fn (k+1) "found_in" ["blocks","number"] (vK g.K Zl):=by
 refine R.fn ni (λvs H Q E h=>by obtain ⟨D,ps,n,rfl,⟨xs,hD,gJ,hxp⟩,hl,hb,hp,h0,hn,q⟩:=h;rfl) λf_ cdv A outer s H vs Q E hr h=>?_
 obtain ⟨D,ps,n,rfl,⟨xs,hD,gJ,hxp⟩,hl,hb,hp,h0,hn,q⟩:=h;refine ⟨_,(Yf (Yp (i:=2) ni.nd rfl (.inl rfl) Yh) (Yf (Yp (i:=3) ni.nd rfl (.inl rfl) (pv 1)) (Yf (W6 ar (Yq El (pv 3) (Ym XG (Yr YD (Yr YQ (pv 0) (pv 2)) Yh) (Yr YD (Yr YQ (pv 0) (pv 2)) Yh)) (Ys _)) (Yf (U5 (i:=3) ni.nd rfl (.inl rfl) (Ym XG (Yr YD (Yr YQ (pv 0) (pv 2)) Yh) (Yr YD (Yr YQ (pv 0) (pv 2)) Yh)) xq) (Yi (U5 (i:=2) ni.nd rfl (.inl rfl) Yh Tf)))) (Yf (Yp (i:=4) ni.nd rfl (.inl rfl) (Yr YD (Yr YQ (pv 0) (pv 2)) Yh)) (Yi (Yn (WS Z5L hr (Ya (pv 2) (Ya (Ym YX (pv 3) (pv 4)) (Ya (Ym Xg (pv 3) (pv 4)) Yd)))))))))),?_⟩;walk_at "rd";refine X6 (α:=Nat×Int) (λx σ H'=>σ=[some (.ref D),some (.int n),some (.int (x.1:Nat)),some (.int x.2),none]/\H=H'/\0<=x.2/\x.2<Xm (ps.drop x.1)/\aL ps n=(x.1+(aL (ps.drop x.1) x.2).1,(aL (ps.drop x.1) x.2).2)/\x.1<=ps.length) (λx=>decide ((ps.getD x.1 (0,0)).1*(ps.getD x.1 (0,0)).2<=x.2)) (λx=>ps.length - x.1) (0,n) ⟨rfl,rfl,h0,hn,by simp,ν _⟩ ?_ ?_ ?_
 ·rintro ⟨i,l⟩ σ H' ⟨rfl,rfl,g0,g1,g2,g3⟩ R r
  dsimp only at g0 g1 g2 g3;have hi:i<ps.length:=by
   rcases Nat.lt_or_ge i ps.length with c | c
   ·exact c
   ·rw [bS c] at g1;simp [Xm] at g1;omega
  have hpi:ps[i]?=some ps[i]:=Ε hi;have hxi:xs[i]?=some (xs[i]'(by omega)):=Ε _;obtain ⟨T,eT,hT⟩:=hxp i _ _ hxi hpi;obtain ⟨N,b0,b1,b2⟩:=(hb _ (Ξ hpi)).ex;have rr:=r H ⟨rfl,rfl,g0,g1,g2,g3⟩;have eg:ps.getD i (0,0)=ps[i]:=by rw [ah,hpi];rfl
  dsimp only at rr;rw [eg] at rr
  walk_at "rd";exact ⟨_,au.of hD,_,Yo hxi,T,eT,_,aJ.of hT,_,rfl,_,au.of hD,_,Yo hxi,T,eT,_,aJ.of hT,_,rfl,_,rfl,_,rfl,.inl (cm b1 b2 (by omega)),rr⟩
 ·rintro ⟨i,l⟩ σ H' ⟨rfl,rfl,g0,g1,g2,g3⟩ hcond
  dsimp only at g0 g1 g2 g3;have hi:i<ps.length:=by
   rcases Nat.lt_or_ge i ps.length with c | c
   ·exact c
   ·rw [bS c] at g1;simp [Xm] at g1;omega
  have hpi:ps[i]?=some ps[i]:=Ε hi;have hxi:xs[i]?=some (xs[i]'(by omega)):=Ε _;obtain ⟨T,eT,hT⟩:=hxp i _ _ hxi hpi;obtain ⟨N,b0,b1,b2⟩:=(hb _ (Ξ hpi)).ex;have eg:ps.getD i (0,0)=ps[i]:=by rw [ah,hpi];rfl
  have lK:=Q0 hpi;dsimp only at hcond;rw [eg,decide_eq_true_iff] at hcond
  rw [lK,WN] at g1
  rw [lK,aL,if_pos hcond] at g2
  walk_at "rd";refine ⟨_,au.of hD,_,Yo hxi,T,eT,_,aJ.of hT,_,rfl,_,au.of hD,_,Yo hxi,T,eT,_,aJ.of hT,_,rfl,_,rfl,_,rfl,.inl (cm b1 b2 (by omega)),(i+1,l - ps[i].1*ps[i].2),by simp,rfl,by dsimp only;omega,by dsimp only;omega,?_,hi,by dsimp only;omega⟩;rw [g2];dsimp only;rw [show i+((aL (ps.drop (i+1)) (l - ps[i].1*ps[i].2)).1+1)=i+1+(aL (ps.drop (i+1)) (l - ps[i].1*ps[i].2)).1 by omega]
 ·rintro ⟨i,l⟩ σ H' ⟨rfl,rfl,g0,g1,g2,g3⟩ hcond
  dsimp only at g0 g1 g2 g3;have hi:i<ps.length:=by
   rcases Nat.lt_or_ge i ps.length with c | c
   ·exact c
   ·rw [bS c] at g1;simp [Xm] at g1;omega
  have hpi:ps[i]?=some ps[i]:=Ε hi;have hxi:xs[i]?=some (xs[i]'(by omega)):=Ε _;obtain ⟨T,eT,hT⟩:=hxp i _ _ hxi hpi;obtain ⟨N,b0,b1,b2⟩:=(hb _ (Ξ hpi)).ex;have eg:ps.getD i (0,0)=ps[i]:=by rw [ah,hpi];rfl
  have lK:=Q0 hpi;dsimp only at hcond;rw [eg,decide_eq_false_iff_not] at hcond
  rw [lK,aL,if_neg hcond] at g2
  have hp2:0<ps[i].2:=by
   rcases hV (hp _ (Ξ hpi)).2 with c | c
   ·exact c
   ·rw [<- c,kg] at hcond;omega
  walk_at "rd";refine ⟨_,au.of hD,_,Yo hxi,T,eT,_,aJ.of hT,_,rfl,_,rfl,⟨hp2,ξ b2 (eM (by decide) (Τ b0 (by decide)))⟩,_,rfl,hp2,λf dx hf hdx hne=>⟨f,dx,i,_,_,rfl,Yb,λH' sb h=>⟨rfl,q f dx H' (XA hf hdx sb) hf ?_⟩⟩⟩;rw [g2];exact h
theorem Mw:∀ (ps:List (Int×Int)) (n:Int),0<=n->n<Xm ps->(∀ p∈ps,0<=p.1/\0<=p.2)->∃ p,ps[(aL ps n).1]?=some p/\0<=(aL ps n).2.2/\(aL ps n).2.2<p.2
 | [],n,h0,h1,_=>by simp [Xm] at h1;omega
 | p::ps,n,h0,h1,hp=>by
  rw [WN] at h1
  by_cases c:p.1*p.2<=n
  ·obtain ⟨q,g1,g2,g3⟩:=Mw ps (n - p.1*p.2) (by omega) (by omega) λq hq=>hp q (.tail _ hq)
   rw [aL,if_pos c];exact ⟨q,by simpa using g1,g2,g3⟩
  ·rw [aL,if_neg c]
   have h2:0<p.2:=by
    rcases hV (hp p (.head _)).2 with z | z
    ·exact z
    ·rw [<- z,kg] at c;omega
   exact ⟨p,rfl,eB _ (by omega),hW _ h2⟩
theorem Ca:∀ (ps:List (Int×Int)) (n:Int),0<=n->n<Xm ps->(∀ p∈ps,0<=p.1/\0<=p.2)->∃ p,ps[(aL ps n).1]?=some p/\0<=(aL ps n).2.1/\(aL ps n).2.1<p.1
 | [],n,h0,h1,_=>by simp [Xm] at h1;omega
 | p::ps,n,h0,h1,hp=>by
  rw [WN] at h1
  by_cases c:p.1*p.2<=n
  ·obtain ⟨q,g1,g2,g3⟩:=Ca ps (n - p.1*p.2) (by omega) (by omega) λq hq=>hp q (.tail _ hq)
   rw [aL,if_pos c];exact ⟨q,by simpa using g1,g2,g3⟩
  ·rw [aL,if_neg c]
   have h2:0<p.2:=by
    rcases hV (hp p (.head _)).2 with z | z
    ·exact z
    ·rw [<- z,kg] at c;omega
   exact ⟨p,rfl,Int.ediv_nonneg h0 (by omega),Int.ediv_lt_of_lt_mul h2 (by omega)⟩
theorem Mx:∀ (Bs:List (Int×Int)) (r:Int),0<=r->r<Xm Bs->(∀ p∈Bs,0<=p.1/\0<=p.2)->∃ b,Bs[(aL Bs r).1]?=some b/\r=Xm (Bs.take (aL Bs r).1)+((aL Bs r).2.1*b.2+(aL Bs r).2.2)/\0<=(aL Bs r).2.1/\(aL Bs r).2.1<b.1/\0<=(aL Bs r).2.2/\(aL Bs r).2.2<b.2
 | [],r,h0,h1,_=>by simp [Xm] at h1;omega
 | p::Bs,r,h0,h1,hp=>by
  rw [WN] at h1
  by_cases c:p.1*p.2<=r
  ·obtain ⟨b,g1,g2,g3⟩:=Mx Bs (r - p.1*p.2) (by omega) (by omega) λq hq=>hp q (.tail _ hq)
   rw [aL,if_pos c];refine ⟨b,by simpa using g1,?_,g3⟩;rw [gy,WN];dsimp only;omega
  ·rw [aL,if_neg c]
   have h2:0<p.2:=by
    rcases hV (hp p (.head _)).2 with z | z
    ·exact z
    ·rw [<- z,kg] at c;omega
   refine ⟨p,rfl,?_,Int.ediv_nonneg h0 (by omega),Int.ediv_lt_of_lt_mul h2 (by omega),eB _ (by omega),hW _ h2⟩
   show r=0+(r / p.2*p.2+r%p.2)
   rw [ke,Int.ediv_mul_add_emod]
theorem Mz {α:Type}:∀ (Ls:List (List α)) (i k:Nat) (L:List α),Ls[i]?=some L->k<L.length->Ls.flatten[((Ls.take i).map i7).sum+k]?=L[k]?
 | [],i,k,L,h,_=>by simp at h
 | M::Ls,0,k,L,h,hk=>by
  cases Δ h
  rw [List.flatten_cons];simp only [eS,fb,List.sum_nil,Nat.zero_add];exact av hk
 | M::Ls,i+1,k,L,h,hk=>by
  have ih:=Mz Ls i k L (by simpa using h) hk;rw [gy,χ,eC,List.flatten_cons,io,ax (Nat.le_add_right _ _),Nat.add_sub_cancel_left];exact ih
theorem Yfo {α:Type} {Bs:List (Int×Int)} {Ls:List (List α)} (hl:Ls.length=Bs.length) (hb:∀ (i:Nat) b L,Bs[i]?=some b->Ls[i]?=some L->(L.length:Int)=b.1*b.2) {r:Int} (h0:0<=r) (h1:r<Xm Bs) (hp:∀ p∈Bs,0<=p.1/\0<=p.2):∃ b L,Bs[(aL Bs r).1]?=some b/\Ls[(aL Bs r).1]?=some L/\Ls.flatten[r.toNat]?=L[((aL Bs r).2.1*b.2+(aL Bs r).2.2).toNat]?/\0<=(aL Bs r).2.1/\(aL Bs r).2.1<b.1/\0<=(aL Bs r).2.2/\(aL Bs r).2.2<b.2:=by
 obtain ⟨b,g1,g2,g3,g4,g5,g6⟩:=Mx Bs r h0 h1 hp;have hi:=(Η.mp g1).1;have gL:Ls[(aL Bs r).1]?=some (Ls[(aL Bs r).1]'(by omega)):=Ε _;refine ⟨b,_,g1,gL,?_,g3,g4,g5,g6⟩;have len:=hb _ b _ g1 gL;have tl:∀ i,i<=Bs.length->Xm (Bs.take i)=((((Ls.take i).map i7).sum:Nat):Int):=λi=>by
  induction i with
  | zero=>intro _;rfl
  | succ i ih =>
   intro hi;have e1:Bs[i]?=some (Bs[i]'(by omega)):=Ε _;have e2:Ls[i]?=some (Ls[i]'(by omega)):=Ε _;have:=hb i _ _ e1 e2;have ih:=ih (by omega);rw [YT e1,YT e2,bc,List.sum_append];simp only [Xm,bc,List.sum_append,χ,fb,eC,List.sum_nil] at ih ⊢;omega
 have t:=tl _ (ge hi);have m0:0<=(aL Bs r).2.1*b.2:=Int.mul_nonneg g3 (by omega);have hk:((aL Bs r).2.1*b.2+(aL Bs r).2.2).toNat<(Ls[(aL Bs r).1]'(by omega)).length:=by
  have:(aL Bs r).2.1*b.2+(aL Bs r).2.2<b.1*b.2:=by
   have:((aL Bs r).2.1+1)*b.2<=b.1*b.2:=Int.mul_le_mul_of_nonneg_right (by omega) (by omega);rw [Int.add_mul,Int.one_mul] at this
   omega
  omega
 have e:r.toNat=((Ls.take (aL Bs r).1).map i7).sum+((aL Bs r).2.1*b.2+(aL Bs r).2.2).toNat:=by omega
 rw [e];exact Mz Ls _ _ _ gL hk
theorem MF {α β γ:Type} {g:α->β->γ} {A:Nat->List α} {B:Nat->List β} {n:Nat} {Bs:List (Int×Int)} (hB:Bs=(ζ n).map λf=>(((A f).length:Int),((B f).length:Int))) {r:Int} (h0:0<=r) (h1:r<Xm Bs):(aL Bs r).1<n/\0<=(aL Bs r).2.1/\(aL Bs r).2.1<(A (aL Bs r).1).length/\0<=(aL Bs r).2.2/\(aL Bs r).2.2<(B (aL Bs r).1).length /\
  ∀ a b,(A (aL Bs r).1)[(aL Bs r).2.1.toNat]?=some a->(B (aL Bs r).1)[(aL Bs r).2.2.toNat]?=some b->((ζ n).flatMap λf=>bf g (A f) (B f))[r.toNat]?=some (g a b):=by
 have at_:∀ {i:Nat} {b:Int×Int},Bs[i]?=some b->i<n/\b=(((A i).length:Int),((B i).length:Int)):=λ{i b} h=>by
  rw [hB,Λ] at h
  obtain ⟨f,hf,rfl⟩:=ε.mp h;have hi:=(Η.mp hf).1;rw [a4] at hi
  rw [aS hi] at hf
  cases hf
  exact ⟨hi,rfl⟩
 obtain ⟨b,L,e1,e2,e3,e4,e5,e6,e7⟩:=Yfo (Ls:=(ζ n).map λf=>bf g (A f) (B f)) (by rw [hB,Β,Β]) (λi b L hb hL=>by
  obtain ⟨hi,rfl⟩:=at_ hb;rw [Λ,aS hi] at hL
  cases Δ hL
  rw [X1,fE]) h0 h1 (λp hp=>by
  obtain ⟨i,hi⟩:=List.getElem?_of_mem hp;obtain ⟨_,rfl⟩:=at_ hi;exact ⟨fI _,fI _⟩)
 obtain ⟨hi,rfl⟩:=at_ e1;rw [Λ,aS hi] at e2
 cases Δ e2
 refine ⟨hi,e4,e5,e6,e7,λa b ha hb=>?_⟩;rw [List.flatMap_def,e3];have:=Bc (g:=g) hb ha;rw [<- this]
 congr 1
 generalize aL Bs r=fd at e4 e6;obtain ⟨i,c,e⟩:=fd;dsimp only at e4 e6 ⊢;obtain ⟨c',rfl⟩:=fo e4;obtain ⟨e',rfl⟩:=fo e6;rw [<- fE,<- eA,br,br,br]
mutual
inductive VO (D:Addr->Option (Addr×Nat)) (H:Hp):V->Γ->List Addr->Prop
 | int (i:Int):VO D H (.int i) (.int i) []
 | str (x:Str) (h:bu x=true):VO D H (.str x) (.str x) []
 | tup {a:Addr} {vs:List V} {ds:List Γ} {L:List Addr}:D a=none->H a=some (.tup vs)->vs.length<=10000->bJ D H vs ds L->VO D H (.ref a) (.tuple ds) L
 | lst {a:Addr} {vs:List V} {ds:List Γ} {L:List Addr}:D a=none->H a=some (.lst vs)->vs.length<=10000->bJ D H vs ds L->VO D H (.ref a) (.list ds) (a::L)
inductive bJ (D:Addr->Option (Addr×Nat)) (H:Hp):List V->List Γ->List Addr->Prop
 | nil:bJ D H [] [] []
 | cons {v:V} {d:Γ} {L:List Addr} {vs:List V} {ds:List Γ} {L':List Addr}:VO D H v d L->bJ D H vs ds L'->bJ D H (v::vs) (d::ds) (L++L')
end
section
 variable {D:Addr->Option (Addr×Nat)} {H H' H0 H1 H2:Hp}
mutual
theorem VO.keep {N:Addr->Prop} (h1:∀ a o,D a=none->(∀ us,o = .lst us->N a)->H a=some o->H' a=some o):∀ {v:V} {d:Γ} {L:List Addr},VO D H v d L->(∀ a∈L,N a)->VO D H' v d L
 | _,_,_,.int i,_ => .int i
 | _,_,_,.str x h,_ => .str x h
 | _,_,_,.tup k1 k2 k3 k4,n => .tup k1 (h1 _ _ k1 (λus z=>by cases z) k2) k3 (bJ.keep h1 k4 n)
 | _,_,_,.lst k1 k2 k3 k4,n => .lst k1 (h1 _ _ k1 (λus _=>n _ (.head _)) k2) k3 (bJ.keep h1 k4 λa ha=>n a (.tail _ ha))
theorem bJ.keep {N:Addr->Prop} (h1:∀ a o,D a=none->(∀ us,o = .lst us->N a)->H a=some o->H' a=some o):∀ {vs:List V} {ds:List Γ} {L:List Addr},bJ D H vs ds L->(∀ a∈L,N a)->bJ D H' vs ds L
 | _,_,_,.nil,_ => .nil
 | _,_,_,.cons a b,n => .cons (VO.keep h1 a λx hx=>n x (gt _ hx)) (bJ.keep h1 b λx hx=>n x (υ _ hx))
end
mutual
theorem VO.dl:∀ {v:V} {d:Γ} {L:List Addr},VO D H v d L->DL H v d L
 | _,_,_,.int i => .int i
 | _,_,_,.str x h => .str x h
 | _,_,_,.tup _ k2 k3 k4 => .tup k2 k3 (bJ.dl k4)
 | _,_,_,.lst _ k2 k3 k4 => .lst k2 k3 (bJ.dl k4)
theorem bJ.dl:∀ {vs:List V} {ds:List Γ} {L:List Addr},bJ D H vs ds L->bI H vs ds L
 | _,_,_,.nil => .nil
 | _,_,_,.cons a b => .cons (VO.dl a) (bJ.dl b)
end
theorem bJ.app {vs':List V} {ds':List Γ} {L':List Addr}:∀ {vs:List V} {ds:List Γ} {L:List Addr},bJ D H vs ds L->bJ D H vs' ds' L'->bJ D H (vs++vs') (ds++ds') (L++L')
 | _,_,_,.nil,h=>h
 | _,_,_,.cons a b,h=>by rw [cE];exact .cons a (b.app h)
theorem VO.one {v:V} {d:Γ} {L:List Addr} (h:VO D H v d L):bJ D H [v] [d] L:=by
 have:=bJ.cons h .nil
 rwa [a8] at this
def Cd (D:Addr->Option (Addr×Nat)) (H H':Hp):Prop:=∀ b o,D b=none->H b=some o->H' b=some o
theorem bJ.fr (f:Cd D H H') {v:List V} {d:List Γ} {L:List Addr} (h:bJ D H v d L):bJ D H' v d L:=h.keep (N:=λ_=>True) (λa o n _ e=>f a o n e) λ_ _=>trivial
theorem Yfp {X:Addr} {zs:List V} {o':HO} (hX:H X=some (.lst zs)):∀ a o,D a=none->(∀ us,o = .lst us->a≠X)->H a=some o->upd H X o' a=some o:=λa o _ n e=>by
 by_cases c:a=X
 ·subst c
  rw [hX] at e
  exact absurd rfl (n _ (Δ e).symm)
 ·rw [Ye c];exact e
structure VW (D:Addr->Option (Addr×Nat)) (H0 H:Hp) (v:V) (d:Γ) (L:List Addr):Prop where
 vl:VO D H v d L
 nd:L.Nodup
 new:∀ a∈L,H0 a=none
structure dW (D:Addr->Option (Addr×Nat)) (H0 H:Hp) (vs:List V) (ds:List Γ) (L:List Addr):Prop where
 vl:bJ D H vs ds L
 nd:L.Nodup
 new:∀ a∈L,H0 a=none
theorem dW.fr (f:Cd D H H') {v:List V} {d:List Γ} {L:List Addr} (h:dW D H0 H v d L):dW D H0 H' v d L:=⟨h.1.fr f,h.2,h.3⟩
theorem dW.nil:dW D H0 H [] [] []:=⟨.nil,.nil,λ_ h=>by cases h⟩
mutual
theorem VO.there:∀ {v:V} {d:Γ} {L:List Addr},VO D H v d L->∀ a∈L,H a≠none
 | _,_,_,.tup _ _ _ k4,a,ha=>bJ.there k4 a ha
 | _,_,_,.lst _ k2 _ k4,a,ha=>by
  rcases Ν.mp ha with e | ha
  ·rw [e,k2];intro z;cases z
  ·exact bJ.there k4 a ha
theorem bJ.there:∀ {vs:List V} {ds:List Γ} {L:List Addr},bJ D H vs ds L->∀ a∈L,H a≠none
 | _,_,_,.cons a b,x,hx=>by
  rcases a6.mp hx with h | h
  ·exact VO.there a x h
  ·exact bJ.there b x h
end
theorem dW.put {vs:List V} {ds:List Γ} {L L':List Addr} {y:V} {d:Γ} {X:Addr} {zs:List V} {o':HO} (h:dW D H0 H1 vs ds L) (hX:X∉L) (f:Cd D H1 H2) (o:VW D H1 H2 y d L') (h1:H1 X≠none) (h2:H2 X=some (.lst zs)) (a0:∀ a,H1 a=none->H0 a=none):dW D H0 (upd H2 X o') (vs++[y]) (ds++[d]) (L++L')/\X∉L++L':=by
 have hX':X∉L':=λz=>h1 (o.new _ z)
 have hX2:X∉L++L':=λz=>by
  rcases a6.mp z with z | z
  ·exact hX z
  ·exact hX' z
 refine ⟨⟨((h.vl.fr f).app o.vl.one).keep (N:=λa=>a≠X) (Yfp h2) λa ha e=>hX2 (by rw [<- e];exact ha),ij.mpr ⟨h.nd,o.nd,λa ha b hb e=>?_⟩,λa ha=>?_⟩,hX2⟩
 ·subst e
  exact h.vl.there a ha (o.new a hb)
 ·rcases a6.mp ha with ha | ha
  ·exact h.new a ha
  ·exact a0 a (o.new a ha)
theorem dW.lst {vs:List V} {ds:List Γ} {L:List Addr} {X:Addr} (h:dW D H0 H vs ds L) (hD:D X=none) (hX:H X=some (.lst vs)) (hn:vs.length<=10000) (n:X∉L) (h0:H0 X=none):VW D H0 H (.ref X) (.list ds) (X::L):=⟨.lst hD hX hn h.vl,aI.mpr ⟨n,h.nd⟩,λa ha=>by
 rcases Ν.mp ha with e | ha
 ·rw [e];exact h0
 ·exact h.new a ha⟩
theorem dW.tup {vs:List V} {ds:List Γ} {L:List Addr} {X:Addr} (h:dW D H0 H vs ds L) (hD:D X=none) (hX:H X=none) (hn:vs.length<=10000):VW D H0 (upd H X (.tup vs)) (.ref X) (.tuple ds) L:=⟨.tup hD Yb hn (h.vl.fr λb o _ e=>by rw [Ye (Yl e hX)];exact e),h.nd,h.new⟩
end
structure VQ (C:Cs) (w:Wo) (t:Sw) (H:Hp) (prs:aR) (p:Addr) (sh:Sh) (s:Nat) (r:Int):Prop where
 W:WI C w t H
 rg:w.reg p=some sh
 ob:jt prs
 bk:w.bk=aF prs
 ok:aH prs sh
 wt:wt sh<=24
 M:w.M=2
 cn:s<t.ns p
 bU:s<=5
 r0:0<=r
 r1:r<cnt w.bk sh s
 rd:∀ p sh,w.reg p=some sh->gR t p
def Ce (C:Cs) (w:Wo) (t:Sw) (H:Hp) (sh:Sh) (s:Nat) (r:Int) (Q:VK):Prop:=∀ v d L t' H',Tr C w t H t' H' 6 0->VW w.D H H' v d L->(en w.bk sh s)[r.toNat]?=some d->Q v H'
inductive aW (C:Cs) (k l:Nat) (vs:List V) (H:Hp) (Q:VK) (E_:XK):Prop
 | mk (w:Wo) (t:Sw) (prs:aR) (p:Addr) (sh:Sh) (s:Nat) (r:Int) (h0:vs=[.ref p,.int (s:Nat),.int r]) (h1:kind sh=k) (h2:VQ C w t H prs p sh s r) (h3:3*s+dep sh+1<=l) (h4:Ce C w t H sh s r Q)
theorem YE {C:Cs} {k:Nat} {vs:List V} {H:Hp} {Q:VK} {E:XK} (h:aW C k 0 vs H Q E):False:=by
 obtain ⟨w,t,prs,p,sh,s,r,_,_,_,h,_⟩:=h;omega
theorem Tr.free {C:Cs} {w:Wo} {t t':Sw} {H H':Hp} {s d:Nat} (T:Tr C w t H t' H' s d) {b:Addr} (h:H' b=none):H b=none:=by
 cases e:H b with
 | none=>rfl
 | some o=>exact absurd h (T.alloc e)
variable {m:Nat}
theorem MJ {k:Nat} {Z1 Z3 Z2 Z5 Z6 Z4 Z7 Z0:Addr} (R:g.aD Z0 "value_at" "WholeMaker.value_at" zY ["self","size","number"]) (Bk:g.Fn k "least_distance" ["size"] (oO)) (Z8:Cls g.K Z0) (Zh:Yg g.K Z0 "counts") (ZD:Yg g.K Z0 "low") (Zy:Yg g.K Z0 "span"):g.Me (k+1) Z0 "value_at" ["self","size","number"] (aW (Cs.mk Z0 Z4 Z5 Z6 Z2 Z3 Z1 Z7) 0 (m+1)):=by
 refine R.me Z3x (λvs H Q E h=>by obtain ⟨w,t,prs,p,sh,sz,r,rfl,hk,vq,hl,q⟩:=h;rfl) λf_ cdv A outer s H vs Q E hr h=>?_
 obtain ⟨w,t,prs,p,sh,sz,r,rfl,hk,vq,hl,q⟩:=h;refine ⟨_,(Yi (Yn (Ym YZ (Ym YZ (Yx (pv 0) rfl) (YA Bk hr (Ya (pv 1) Yd))) (pv 2)))),?_⟩
 cases sh with
 | w lo span =>
  obtain ⟨dx,c,fs,hU,hd,hsm,hns,hp,bV,hc,hsub⟩:=vq.W.at_ p _ vq.rg;have hsub:fs=fW lo span:=hsub;subst hsub;have bU:=vq.bU;have r0:=vq.r0;have r1:=vq.r1;rw [JH] at r1
  walk_at "rd";refine ⟨_,_,_,hp,Z8,ZD,_,rfl,_,rfl,by omega,_,rfl,_,rfl,q _ _ [] t H (.refl vq.W _ _) ⟨.int _,.nil,λ_ h=>by cases h⟩ ?_⟩;rw [qx,Λ,aS (by omega),ez,Int.toNat_of_nonneg r0]
 | _=>cases hk
abbrev Ul (C:Cs) (l:Nat):List (Addr×Sp):=[(C.w,aW C 0 l),(C.t,aW C 1 l),(C.row,aW C 2 l),(C.pick,aW C 3 l),(C.many,aW C 4 l),(C.alike,aW C 6 l),(C.use,aW C 5 l)]
theorem Yfq (C:Cs) (l:Nat) (sh:Sh):(Ug C sh,aW C (kind sh) l)∈Ul C l:=by
 cases sh with
 | w lo span=>exact .head _
 | t sg=>exact .tail _ (.head _)
 | row ps=>exact .tail _ (.tail _ (.head _))
 | pick mk ps=>exact .tail _ (.tail _ (.tail _ (.head _)))
 | many q=>exact .tail _ (.tail _ (.tail _ (.tail _ (.head _))))
 | alike q n=>exact .tail _ (.tail _ (.tail _ (.tail _ (.tail _ (.head _)))))
 | use x=>exact .tail _ (.tail _ (.tail _ (.tail _ (.tail _ (.tail _ (.head _))))))
theorem W1 {C:Cs} {w:Wo} {t:Sw} {H:Hp} {prs:aR} {a:Addr} {sh:Sh} {l sz:Nat} {r:Int} {Q:VK} (V:VQ C w t H prs a sh sz r) (hf:3*sz+dep sh+1<=l) (q:Ce C w t H sh sz r Q):iU (Ul C l) H a "value_at" λsp=>sp [.ref a,.int (sz:Nat),.int r] H Q E0:=by
 obtain ⟨dx,c,fs,hU,hd,hsm,hns,hp,bV,hc,hsub⟩:=V.W.at_ a sh V.rg;exact ⟨_,_,Yfq C l sh,dx,_,hp,Wm (by decide +kernel) hsub,w,t,prs,a,sh,sz,r,rfl,rfl,V,hf,q⟩
theorem MK {k:Nat} {Z1 Z3 Z2 Z5 Z6 Z4 Z7 Z0:Addr} (R:g.aD Z7 "value_at" "UseMaker.value_at" Ay ["self","size","number"]) (aZ:g.dR k "value_at" ["self","size","number"] (Ul (Cs.mk Z0 Z4 Z5 Z6 Z2 Z3 Z1 Z7) (m))) (Ze:Cls g.K Z7) (Zv:Yg g.K Z7 "counts") (Zn:Yg g.K Z7 "named"):g.Me (k+1) Z7 "value_at" ["self","size","number"] (aW (Cs.mk Z0 Z4 Z5 Z6 Z2 Z3 Z1 Z7) 5 (m+1)):=by
 refine R.me Z4j (λvs H Q E h=>by obtain ⟨w,t,prs,p,sh,sz,r,rfl,hk,vq,hl,q⟩:=h;rfl) λf_ cdv A outer s H vs Q E hr h=>?_
 obtain ⟨w,t,prs,p,sh,sz,r,rfl,hk,vq,hl,q⟩:=h;refine ⟨_,(Yi (Yn (XH aZ hr (Yx (pv 0) rfl) (Ya (Ym Y3 (pv 1) Yh) (Ya (pv 2) Yd))))),?_⟩
 cases sh with
 | use x =>
  obtain ⟨dx,c,fs,hU,hd,hsm,hns,hp,bV,hc,hsub⟩:=vq.W.at_ p _ vq.rg;obtain ⟨a,e,hga,hcn⟩:=hsub;have e:fs=fU (.ref a):=e;subst e;have hcn:t.ns p - 1<=t.ns a:=hcn;have hok:=vq.ok;rw [aH] at hok
  obtain ⟨q0,qJ⟩:=hok;obtain ⟨eb,hm0⟩:=QX qJ;have e0:w.bk x=q0.2:=by rw [vq.bk];exact eb
  have h1:=vq.r1;have h0:=vq.r0;have hc1:=vq.cn;have bU:=vq.bU;obtain ⟨j,rfl⟩:∃ j,sz=j+1:=⟨sz - 1,by
   cases sz with
   | zero=>rw [JQ] at h1;omega
   | succ j=>rfl⟩
  rw [JR] at h1
  have hdp:=vq.ob.dp q0 hm0;have VA:VQ (Cs.mk Z0 Z4 Z5 Z6 Z2 Z3 Z1 Z7) w t H prs a (w.bk x) j r:=⟨vq.W,hga,vq.ob,vq.bk,by rw [e0];exact vq.ob.ok q0 hm0,by rw [e0];exact vq.ob.wt q0 hm0,vq.M,by omega,by omega,h0,h1,vq.rd⟩;have hd2:dep (w.bk x)<=2:=by rw [e0];exact hdp
  walk_at "rd";rw [show ((j+1:Nat):Int) - 1=(j:Int) by omega];refine ⟨_,_,_,hp,Ze,Zn,_,Km _ _,a,rfl,?_⟩;exact W1 VA (by omega) λv d L t' H' T1 hv hva=>q v d L t' H' T1 hv (by rw [Ue];exact hva)
 | _=>cases hk
theorem Yfr (c M P:Addr):(mf c (fP M P)).lookup ("marks":Str)=some (.ref M):=by
 unfold mf fP;rw [Υ,show (("marks":Str)==("counts":Str))=false by decide +kernel,Υ,show (("marks":Str)==("marks":Str))=true by decide +kernel]
theorem MN {i:Int} {n:Nat} (h0:0<=i) (h:i<=2^n):i.natAbs<2^(n+1):=by
 have e:(2:Int)^n=((2^n:Nat):Int):=by norm_cast
 rw [e] at h
 rw [Nat.pow_succ];have:0<2^n:=Nat.pow_pos (by decide);omega
theorem Cg {i j:Int} {n m:Nat} (h0:0<=i) (h:i<=2^n) (g0:0<=j) (g:j<=2^m) (hn:n<=8990) (hm:m<=8990):big i j :=
 ⟨8991,by decide,ξ (MN h0 h) (eM (by decide) (by omega)),ξ (MN g0 g) (eM (by decide) (by omega))⟩
theorem YeD (f:Sh->Int) (ps:List Sh):Xm (ps.map λp=>(f p,1))=(ps.map f).sum:=by
 unfold Xm;rw [bo]
 congr 1
 exact a9 λp _=>Int.mul_one _
theorem MP {bk:List Nat->Sh} {s:Nat} {p:Sh} {m:List Nat} {d:Γ}:∀ {ps:List Sh} {mk:List (List Nat)} {r:Int},0<=r->mk.length=ps.length->ps[(aL (ps.map λp=>(cnt bk p s,(1:Int))) r).1]?=some p->mk[(aL (ps.map λp=>(cnt bk p s,(1:Int))) r).1]?=some m->(en bk p s)[(aL (ps.map λp=>(cnt bk p s,(1:Int))) r).2.1.toNat]?=some d->(cA bk mk ps s)[r.toNat]?=some (.tuple [.str (S m),d])
 | q::ps,m0::mk,r,h0,hl,h1,h2,h3=>by
  rw [χ,aL] at h1 h2 h3
  rw [XR];by_cases c:cnt bk q s*1<=r
  ·rw [if_pos c] at h1 h2 h3
   have e:cnt bk q s=((en bk q s).length:Int):=rfl;have ih:=MP (ps:=ps) (mk:=mk) (r:=r - cnt bk q s*1) (by omega) (by simpa using hl) (by simpa using h1) (by simpa using h2) h3;rw [ax (by rw [Β];omega),Β,show r.toNat - (en bk q s).length=(r - cnt bk q s*1).toNat by omega];exact ih
  ·rw [if_neg c] at h1 h2 h3
   have e:cnt bk q s=((en bk q s).length:Int):=rfl
   cases Δ h1
   cases Δ h2
   rw [gS] at h3
   rw [av (by rw [Β];omega),Λ,h3];rfl
 | [],_,_,_,_,h,_,_=>by simp [aL] at h
theorem M4 {k:Nat} {Z1 Zl Z3 Z2 Z5 Z6 Z4 Z7 Z0:Addr} (R:g.aD Z2 "value_at" "PickMaker.value_at" Aj ["self","size","number"]) (qK:g.Fn k "found_in" ["blocks","number"] (vK g.K Zl)) (Bq:g.Me k Z2 "blocks_at" ["self","size"] (qC (Cs.mk Z0 Z4 Z5 Z6 Z2 Z3 Z1 Z7) 91)) (aZ:g.dR k "value_at" ["self","size","number"] (Ul (Cs.mk Z0 Z4 Z5 Z6 Z2 Z3 Z1 Z7) (m))) (ZL:Cls g.K Zl) (ZG:Yg g.K Zl "place") (ZI:Yg g.K Zl "choice") (ZT:Yg g.K Zl "rest") (Zb:Cls g.K Z2) (Zp:Yg g.K Z2 "counts") (Zs:Yg g.K Z2 "marks") (Zm:Yg g.K Z2 "parts"):g.Me (k+1) Z2 "value_at" ["self","size","number"] (aW (Cs.mk Z0 Z4 Z5 Z6 Z2 Z3 Z1 Z7) 3 (m+1)):=by
 refine R.me Ju (λvs H Q E h=>by obtain ⟨w,t,prs,p,sh,sz,r,rfl,hk,vq,hl,q⟩:=h;rfl) λf_ cdv A outer s H vs Q E hr h=>?_
 obtain ⟨w,t,prs,p,sh,sz,r,rfl,hk,vq,hl,q⟩:=h;refine ⟨_,(Yf (Yp (i:=3) Ju.nd rfl (.inl rfl) (YA qK hr (Ya (Xz Bq Zb hr (pv 0) (Ya (pv 1) Yd)) (Ya (pv 2) Yd)))) (Yi (Yn (Xb (Ya (Yr YQ (Yx (pv 0) rfl) (Yx (pv 3) rfl)) (Ya (XH aZ hr (Yr YQ (Yx (pv 0) rfl) (Yx (pv 3) rfl)) (Ya (pv 1) (Ya (Yx (pv 3) rfl) Yd))) Yd)))))),?_⟩
 cases sh with
 | pick mk ps =>
  obtain ⟨dx,c,fs,hU,hd,hsm,hns,hp,bV,hc,hsub⟩:=vq.W.at_ p _ vq.rg;have hno:=λ{m:Str} (h:isF m=false)=>Wm (c:=c) h hsub
  obtain ⟨M,P,as,rfl,h2,h3,h4,h5,h6,h7⟩:=hsub;have hdr:dep (.pick mk ps)=YH ps+1:=by rw [dep]
  have hok:=vq.ok;rw [aH] at hok
  obtain ⟨hml,hpl,lM,hstr⟩:=hok;have bU:=vq.bU;have hcn:=vq.cn;have hM:=vq.M;have cR:=vq.wt;rw [wt] at cR
  have cb:∀ p∈ps,0<=cnt w.bk p sz/\cnt w.bk p sz<=2^(300*sz+(12*wt p - 6))/\wt p<=24:=λp' hp'=>by
   have h1:=Br hp';rw [vq.bk];have:=Ui prs vq.ob p' sz (by omega) (WB lM hp') (by omega);exact ⟨this.1,this.2,by omega⟩
  have nn:∀ x∈ps.map (λp=>(cnt w.bk p sz,(1:Int))),0<=x.1/\0<=x.2:=λx hx=>by
   obtain ⟨p',hp',rfl⟩:=ac.mp hx;exact ⟨(cb p' hp').1,(by decide:(0:Int)<=1)⟩
  have hr1:=vq.r1;rw [JM,<- YeD (λp=>cnt w.bk p sz)] at hr1
  obtain ⟨x,e1,e2,e3⟩:=Ca _ r vq.r0 hr1 nn;have pat:=λ(p0:Sh) (m0:List Nat) (d0:Γ)=>MP (bk:=w.bk) (s:=sz) (p:=p0) (m:=m0) (d:=d0) (ps:=ps) (mk:=mk) (r:=r) vq.r0 hml
  generalize hfn:aL (ps.map λp=>(cnt w.bk p sz,(1:Int))) r=fd at e1 e2 e3 pat;rw [Λ] at e1
  obtain ⟨p',hp',rfl⟩:=ε.mp e1;have hi:=(Η.mp hp').1;have hmk:mk[fd.1]?=some (mk[fd.1]'(by omega)):=Ε _;generalize mk[fd.1]'(by omega)=Ci at hmk;have hal:=h6.1;have hai:as[fd.1]?=some (as[fd.1]'(by omega)):=Ε _;generalize as[fd.1]'(by omega)=a at hai;have hga:=h6.2 fd.1 a p' hai hp';have hdp:dep p'<=YH ps:=X9 (Ξ hp');refine WJ λR rr=>?_
  walk_at "rd";refine ⟨_,_,hp,hno (by decide +kernel),w,t,p,mk,ps,sz,rfl,vq.W,vq.rg,by omega,by omega,by unfold fu;rw [hM];omega,λp' sh' hr' _=>vq.rd p' sh' hr',λD t1 H1 T1 gD cX hB hpc=>?_⟩;refine ⟨D,_,r,rfl,hB,by rw [Β];omega,λx hx=>?_,nn,vq.r0,hr1,λf M5 H2 s2 gf hf=>rr _ _ ?_⟩
  ·obtain ⟨p2,hp2,rfl⟩:=ac.mp hx
   obtain ⟨c1,c2,c3⟩:=cb p2 hp2;exact Cg (m:=0) c1 c2 (by decide:(0:Int)<=1) (by decide:(1:Int)<=2^0) (by omega) (by decide)
  ·rw [hfn] at hf
   have T2:=T1.same s2;have hp2:=T2.fr _ _ hU.1 hp;have VA:VQ (Cs.mk Z0 Z4 Z5 Z6 Z2 Z3 Z1 Z7) w t1 H2 prs a p' sz fd.2.1:=⟨T2.wi,hga,vq.ob,vq.bk,WB lM (Ξ hp'),(cb p' (Ξ hp')).2.2,vq.M,hpc a ⟨dx,c,M,P,as,hp,h5,Ξ hai⟩,bU,e2,e3,λp' sh' hr'=>(T2.gr p' sh' hr').un (vq.rd p' sh' hr')⟩;walk_at "rd";refine ⟨_,_,_,hp2,Zb,Zs,_,Yfr _ _ _,_,_,_,hf,ZL,ZG,_,rfl,M,rfl,_,rfl,_,au.of (T2.fr _ _ h2.1 h4),_,Yo (by rw [Λ,hmk];rfl),?_⟩;refine ⟨_,_,_,hp2,Zb,Zm,_,Kl _ _ _,_,_,_,hf,ZL,ZG,_,rfl,P,rfl,_,rfl,_,au.of (T2.fr _ _ h3.1 h5),_,Yo (by rw [Λ,hai];rfl),a,rfl,?_⟩;refine (W1 (l:=m) VA (by omega) λv d L t3 H3 T3 hv hva=>?_).map λsp h=>⟨_,_,_,hf,ZL,ZI,_,rfl,h⟩
   refine ⟨few (by decide),λX gX=>?_⟩;have sX:=Yk.aj gX (.tup [.str (S Ci),v]);have hmo:=hstr _ (Ξ hmk);have VS:dW w.D H H3 [.str (S Ci),v] [.str (S Ci),d] L:=⟨.cons (L:=[]) (.str _ hmo) hv.vl.one,hv.nd,λa ha=>T2.free (hv.new a ha)⟩;exact q _ _ L t3 _ (((T2.mono (by omega)).trans T3).same sX) (VS.tup (T3.wi.new gX).1 gX (show 2<=10000 by decide)) (by rw [WZ];exact pat _ _ _ hp' hmk hva)
 | _=>cases hk
theorem Vk (pl:Nat) (c r:Int):(jT pl c r).lookup ("place":Str)=some (.int pl):=rfl
theorem Qu (pl:Nat) (c r:Int):(jT pl c r).lookup ("choice":Str)=some (.int c):=by
 unfold jT;rw [Υ,show (("choice":Str)==("place":Str))=false by decide +kernel,Υ,show (("choice":Str)==("choice":Str))=true by decide +kernel]
theorem M6 (pl:Nat) (c r:Int):(jT pl c r).lookup ("rest":Str)=some (.int r):=by
 unfold jT;rw [Υ,show (("rest":Str)==("place":Str))=false by decide +kernel,Υ,show (("rest":Str)==("choice":Str))=false by decide +kernel,Υ,show (("rest":Str)==("rest":Str))=true by decide +kernel]
theorem YeE (c P T:Addr):(mf c (fR P T)).lookup ("parts":Str)=some (.ref P):=by
 unfold mf fR;rw [Υ,show (("parts":Str)==("counts":Str))=false by decide +kernel,Υ,show (("parts":Str)==("parts":Str))=true by decide +kernel]
def jw (bk:List Nat->Sh) (p:Sh) (ps:List Sh) (s:Nat):List (Int×Int):=(ζ (s+1)).map λf=>(cnt bk p f,YY bk ps (s - f))
theorem YgQ (bk:List Nat->Sh) (p:Sh) (ps:List Sh) (s:Nat):Xm (jw bk p ps s)=YY bk (p::ps) s:=by
 rw [JL,Xm,jw,bo];rfl
theorem Qv {bk:List Nat->Sh} {p:Sh} {ps:List Sh} {s i:Nat} {x:Int×Int} (h:(jw bk p ps s)[i]?=some x):i<=s/\x=(cnt bk p i,YY bk ps (s - i)):=by
 unfold jw at h;rw [Λ] at h
 obtain ⟨f,hf,rfl⟩:=ε.mp h;have hi:=(Η.mp hf).1;rw [a4] at hi
 rw [aS hi] at hf
 cases hf
 exact ⟨by omega,rfl⟩
inductive RV (C:Cs) (w:Wo) (t:Sw) (H:Hp) (p D:Addr) (ps:List Sh) (sz:Nat) (r:Int) (i:Nat) (σ:St) (H':Hp):Prop
 | mk (o6 o7 o8:Option V) (left:Nat) (YG:Int) (vs:List V) (ds:List Γ) (t':Sw) (e:σ=[some (.ref p),some (.int (sz:Nat)),some (.int r),some (.ref D),some (.int (left:Nat)),some (.int YG),o6,o7,o8]) (l:vs.length=i) (hd:H' D=some (.lst vs)) (hU:¬ t'.U D) (hl:left<=sz) (r0:0<=YG) (r1:YG<YY w.bk (ps.drop i) left) (T:Tr C w t H t' H' 6 0) (L:List Addr) (hL:D∉L) (v:dW w.D H H' vs ds L) (a:∀ es,(bR w.bk (ps.drop i) left)[YG.toNat]?=some es->(bR w.bk ps sz)[r.toNat]?=some (ds++es))
theorem Yfs (P L:Addr):(Wy P L).lookup ("blocks_at":Str)=none:=by
 unfold Wy;rw [Υ,show (("blocks_at":Str)==("parts":Str))=false by decide +kernel,Υ,show (("blocks_at":Str)==("ways":Str))=false by decide +kernel];rfl
theorem M7 {k:Nat} {Z1 Zl Z3 Z2 Z5 Z6 Z4 Z7 Z0:Addr} (R:g.aD Z5 "value_at" "RowMaker.value_at" Af ["self","size","number"]) (qK:g.Fn k "found_in" ["blocks","number"] (vK g.K Zl)) (Bo:g.Me k Z6 "blocks_at" ["self","place","left"] (qy (Cs.mk Z0 Z4 Z5 Z6 Z2 Z3 Z1 Z7) 91)) (aZ:g.dR k "value_at" ["self","size","number"] (Ul (Cs.mk Z0 Z4 Z5 Z6 Z2 Z3 Z1 Z7) (m))) (nH:g.mg "enumerate"=none) (cF:g.mg "tuple"=none) (ZL:Cls g.K Zl) (ZG:Yg g.K Zl "place") (ZI:Yg g.K Zl "choice") (ZT:Yg g.K Zl "rest") (Zf:Cls g.K Z5) (ZC:Yg g.K Z5 "counts") (ZE:Yg g.K Z5 "parts") (ZB:Yg g.K Z5 "table") (Zj:Cls g.K Z6) (Zo:Yg g.K Z6 "parts") (Zi:Yg g.K Z6 "ways"):g.Me (k+1) Z5 "value_at" ["self","size","number"] (aW (Cs.mk Z0 Z4 Z5 Z6 Z2 Z3 Z1 Z7) 2 (m+1)):=by
 refine R.me ZU (λvs H Q E h=>by obtain ⟨w,t,prs,p,sh,sz,r,rfl,hk,vq,hl,q⟩:=h;rfl) λf_ cdv A outer s H vs Q E hr h=>?_
 obtain ⟨w,t,prs,p,sh,sz,r,rfl,hk,vq,hl,q⟩:=h;refine ⟨_,(Yf (Yp (i:=3) ZU.nd rfl (.inl rfl) (Y0 Yd)) (Yf (Yp (i:=4) ZU.nd rfl (.inl rfl) (pv 1)) (Yf (Yp (i:=5) ZU.nd rfl (.inl rfl) (pv 2)) (Yf (Xt ar rfl (YeZ rfl nH (Ya (Yx (pv 0) rfl) Yd) (by rfl)) (V0 (n:=2) rfl (XB (Yu (i:=6) ZU.nd rfl (.inl rfl)) (XB (Yu (i:=7) ZU.nd rfl (.inl rfl)) Vq))) (Yf (Yp (i:=8) ZU.nd rfl (.inl rfl) (YA qK hr (Ya (Xz Bo Zj hr (Yx (pv 0) rfl) (Ya (pv 6) (Ya (pv 4) Yd))) (Ya (pv 5) Yd)))) (Yf (Y9 (VF F.plainAttrs_list F.slot_list_append F.type_list_append XJ (pv 3) (Ya (XH aZ hr (pv 7) (Ya (Yx (pv 8) rfl) (Ya (Yx (pv 8) rfl) Yd))) Yd))) (Yf (U5 (i:=4) ZU.nd rfl (.inl rfl) (Yx (pv 8) rfl) xq) (Yi (Yp (i:=5) ZU.nd rfl (.inl rfl) (Yx (pv 8) rfl))))))) (Yi (Yn (Qh cF VZ (Ya (pv 3) Yd)))))))),?_⟩
 cases sh with
 | row ps =>
  obtain ⟨dx,c,fs,hU,hd,hsm,hns,hp,bV,hc,hsub⟩:=vq.W.at_ p _ vq.rg;obtain ⟨P,T,dt,L,as,ws,rfl,h2,h3,h4,h5,h6,h7,h8,h9,h10,h11,h12⟩:=hsub;have hT:Tb (Cs.mk Z0 Z4 Z5 Z6 Z2 Z3 Z1 Z7) H p T:=⟨dx,c,P,hp⟩;have hdr:dep (.row ps)=YH ps+1:=by rw [dep]
  have hok:=vq.ok;rw [aH] at hok
  obtain ⟨hpl,lM⟩:=hok;have bU:=vq.bU;have hcn:=vq.cn;have hM:=vq.M;have cR:=vq.wt;rw [wt] at cR
  have hr1:=vq.r1;rw [QR] at hr1
  have hal:=h6.1;have hbd:=λ(i s:Nat) (hs:s<=sz)=>K1 prs vq.ob (ps.drop i) s (by omega) (UX i lM) (by have:=VV ps i;omega)
  refine WJ λR rr=>?_
  walk_at "rd";refine ⟨few (by decide),λD hD=>rr _ _ ?_⟩;have sD:=Yk.aj hD (.lst []);obtain ⟨dD,uD⟩:=vq.W.new hD;refine WJ λR rr=>?_
  walk_at "rd";refine rr _ _ (WJ λR rr=>?_);walk_at "rd";refine rr _ _ (WJ λR rr=>?_);refine Yda (K:=g.K) (a:=P) (xs:=as.map V.ref) (RV (Cs.mk Z0 Z4 Z5 Z6 Z2 Z3 Z1 Z7) w t H p D ps sz r) (λR r'=>by walk_at "rd";exact ⟨_,_,_,sD _ _ hp,Zf,ZE,_,YeE _ _ _,r'⟩) ⟨none,none,none,sz,r,[],[],t,rfl,rfl,Yb,uD,Κ _,vq.r0,hr1,(Tr.refl vq.W _ _).put hD uD _,[],(λh=>by cases h),.nil,λes h=>h⟩ (λi σ H' _ ⟨_,_,_,_,_,_,_,_,_,_,_,_,_,_,_,T1,_,_,_,_⟩=>au.of (T1.fr _ _ h2.1 h5)) ?_ ?_
  ·rintro i x σ H' X hx ⟨o6,o7,o8,left,YG,vs,ds,t',rfl,hvl,hd',cX,bY,hr0,eZ,T1,L,hL,hv,hva⟩ hX
   rw [Λ] at hx
   obtain ⟨a,ha,rfl⟩:=ε.mp hx;have hi:=(Η.mp ha).1;have hsh:ps[i]?=some (ps[i]'(by omega)):=Ε _;generalize ps[i]'(by omega)=sh at hsh;have hga:=h6.2 i a sh ha hsh;have hdp:dep sh<=YH ps:=X9 (Ξ hsh);have hws:=Br (Ξ hsh);have Cj:=WB lM (Ξ hsh);have lK:=Q0 hsh;rw [lK,<- YgQ] at eZ
   have M8:=λ(s:Nat) (hs:s<=sz)=>Ui prs vq.ob sh s (by omega) Cj (by omega)
   have nn:∀ x∈jw w.bk sh (ps.drop (i+1)) left,0<=x.1/\0<=x.2:=λx hx=>by
    obtain ⟨j,hj⟩:=List.getElem?_of_mem hx;obtain ⟨j1,rfl⟩:=Qv hj;rw [vq.bk];exact ⟨(M8 j (by omega)).1,(hbd _ _ (by omega)).1⟩
   obtain ⟨x1,e1,e2,e3⟩:=Ca _ YG hr0 eZ nn;obtain ⟨x2,f1,f2,f3⟩:=Mw _ YG hr0 eZ nn;generalize hfn:aL (jw w.bk sh (ps.drop (i+1)) left) YG=fd at e1 e2 e3 f1 f2 f3;obtain ⟨e4,rfl⟩:=Qv e1;obtain ⟨_,rfl⟩:=Qv f1;have sX:=Yk.aj hX (.tup [.int (i:Int),.ref a]);have T2:=T1.same sX;have Ck:∀ p' sh',w.reg p'=some sh'->gR t' p':=λp' sh' hr'=>(T2.gr p' sh' hr').un (vq.rd p' sh' hr')
   obtain ⟨JV,c2,fs2,vB,_,_,_,hp2,_,_,hsub2⟩:=T2.wi.at_ p _ vq.rg;have hp3:=T2.fr _ _ hU.1 hp;have up:=(T2.gr p _ vq.rg).up;have hms:∀ j,left<t'.ms p j:=λj=>by
    have hu:=Ck p _ vq.rg;obtain ⟨P',T',dt',L',as',ws',_,_,_,_,_,_,_,_,_,g10,g11,_⟩:=hsub2;have hw0:ws'[0]?=some (ws'[0]'(by omega)):=Ε _;have:=(g11 0 _ hw0).2.1;rw [hu j];omega
   have rat:=λ(b:Γ) (es:List Γ)=>(MF (g:=ck) (A:=λf=>en w.bk sh f) (B:=λf=>bR w.bk (ps.drop (i+1)) (left - f)) (n:=left+1) (Bs:=jw w.bk sh (ps.drop (i+1)) left) rfl hr0 eZ).2.2.2.2.2 b es
   rw [hfn] at rat
   refine ⟨X,_,rfl,aJ.of Yb,rfl,_,_,rfl,_,_,rfl,rfl,WJ λR rr=>?_⟩;walk_at "rd";refine ⟨_,_,_,hp3,Zf,ZB,_,Ke _ _ _,T,rfl,_,_,T2.fr _ _ h3.1 h8,Yfs _ _,w,t',p,T,ps,i,left,sh,rfl,T2.wi,vq.rg,⟨dx,c,P,hp3⟩,hsh,by omega,by omega,λj _=>hms j,by unfold fu;rw [hM];omega,λp' sh' hr' _=>Ck p' sh' hr',λB t3 H3 T3 gB hUB hB hpc=>?_⟩;refine ⟨B,jw w.bk sh (ps.drop (i+1)) left,YG,rfl,hB,by rw [jw,Β,a4];omega,λx hx=>?_,nn,hr0,eZ,λf M5 H4 s4 gf hf=>rr _ _ (WJ λR rr=>?_)⟩
   ·obtain ⟨j,hj⟩:=List.getElem?_of_mem hx
    obtain ⟨j1,rfl⟩:=Qv hj;rw [vq.bk];have c1:=M8 j (by omega);have c2:=hbd (i+1) (left - j) (by omega);have:=VV ps (i+1);exact Cg c1.1 c1.2 c2.1 c2.2 (by omega) (by omega)
   ·rw [hfn] at hf
    have T4:=T3.same s4;have nJ:=T2.trans (T4.mono (by omega));have jP:=T4.fr _ _ dD (sX _ _ hd');have R8:=T4.ours cX (sX _ _ hd');have hlt:=hpc a ⟨dx,c,P,T,as,hp3,T2.fr _ _ h2.1 h5,ha⟩;have VA:VQ (Cs.mk Z0 Z4 Z5 Z6 Z2 Z3 Z1 Z7) w t3 H4 prs a sh fd.1 fd.2.1:=⟨T4.wi,hga,vq.ob,vq.bk,Cj,by omega,vq.M,by omega,by omega,e2,e3,λp' sh' hr'=>(T4.gr p' sh' hr').un (Ck p' sh' hr')⟩;walk_at "rd";refine ⟨.inl ⟨rfl,_,au.of jP⟩,?_⟩;refine (W1 (l:=m) VA (by omega) λv d L5 t5 H5 T5 Cm uo=>?_).map λsp h=>⟨_,_,_,hf,ZL,ZG,_,Vk _ _ _,_,_,_,hf,ZL,ZI,_,Qu _ _ _,h⟩
    have qm:=T5.fr _ _ dD jP;have Cp:=T5.ours R8 jP;refine ⟨_,qm,few (by omega),rr _ _ (WJ λR rr=>?_)⟩;have uf:¬ t3.U f:=T3.wi.new gf |>.2
    have qL:=T5.fr _ _ (T3.wi.new gf).1 hf;have nfD:f≠D:=Y8 qL qm (by simp);have qM:=(Ye (H:=H5) (o := .lst (vs++[v])) nfD).trans qL;walk_at "rd";refine ⟨_,_,_,qM,ZL,ZG,_,Vk _ _ _,_,rfl,rr _ _ ?_⟩;walk_at "rd";refine ⟨_,_,_,qM,ZL,ZT,_,M6 _ _ _,?_⟩;have hv4:=hv.fr (H':=H4) λb o n e=>T4.fr b o n (sX _ _ e)
    obtain ⟨VS,iM⟩:=hv4.put hL T5.fr Cm (by rw [jP];intro z;cases z) qm (o' := .lst (vs++[v])) λa e=>nJ.free e
    refine ⟨_,_,_,left - fd.1,fd.2.2,vs++[v],ds++[d],t5,by rw [show (left:Int) - (fd.1:Nat)=((left - fd.1:Nat):Int) by omega],by rw [Μ,hvl];rfl,Yb,Cp,by omega,f2,f3,(nJ.trans T5).put hD Cp _,_,iM,VS,λes he=>?_⟩;rw [cE];refine hva _ ?_;rw [lK,XX];exact rat d es uo he
  ·rintro σ H' ⟨o6,o7,o8,left,YG,vs,ds,t',rfl,hvl,hd',cX,bY,hr0,eZ,T1,L,hL,hv,hva⟩
   refine rr _ _ ?_;walk_at "rd";refine ⟨_,.inl ⟨au.of hd',λX gX=>?_⟩⟩;have sX:=Yk.aj gX (.tup vs);rw [Β] at hva hvl eZ
   rw [hal,List.drop_length] at hva eZ
   rw [JK] at eZ
   have hz:left=0:=by
    by_cases z:left=0
    ·exact z
    ·rw [if_neg z] at eZ;omega
   rw [if_pos hz] at eZ
   have h1:=hva [] (by rw [Wa,if_pos hz,show YG=0 by omega];rfl);rw [a8] at h1
   exact q _ _ L t' _ (T1.same sX) (hv.tup (T1.wi.new gX).1 gX (by omega)) (by rw [Vb,Λ,h1];rfl)
 | _=>cases hk
def dg (sg:List Nat):Nat->Int->List Nat
 | 0,_=>[]
 | k+1,n=>sg.getD (n%sg.length).toNat 0::dg sg k (n / sg.length)
theorem V7 (sg:List Nat):∀ k n,(dg sg k n).length=k
 | 0,_=>rfl
 | k+1,n=>by rw [dg,ω,V7]
def nM (m:Int):Nat->Int->Int
 | 0,n=>n
 | k+1,n=>nM m k n / m
theorem M9 (m:Int):∀ k n,nM m (k+1) n=nM m k (n / m)
 | 0,n=>rfl
 | k+1,n=>by rw [nM,M9 m k n];rfl
theorem Nb (sg:List Nat):∀ k n,dg sg (k+1) n=dg sg k n++[sg.getD (nM sg.length k n%sg.length).toNat 0]
 | 0,n=>rfl
 | k+1,n=>by
  rw [dg,Nb sg k (n / sg.length),dg,M9];rfl
theorem Cq {sg:List Nat} (h:0<sg.length) (n:Int):sg[(n%sg.length).toNat]?=some (sg.getD (n%sg.length).toNat 0):=by
 have h1:0<=n%(sg.length:Int):=eB _ (by omega);have h2:n%(sg.length:Int)<sg.length:=hW _ (by omega);have hlt:(n%(sg.length:Int)).toNat<sg.length:=by omega
 rw [Ε hlt,ah,Ε hlt];rfl
theorem EY {sg:List Nat} (h:0<sg.length) (n:Int):dZ sg (n%sg.length)=some (sg.getD (n%sg.length).toNat 0):=by
 have e:n%(sg.length:Int)=((n%(sg.length:Int)).toNat:Int):=(Int.toNat_of_nonneg (eB _ (by omega))).symm;have:=Cq h n;rw [e,br];exact Yo this
theorem Nf {sg:List Nat} (h:0<sg.length):∀ (k:Nat) (n:Int),∀ c∈dg sg k n,c∈sg
 | 0,_,c,hc=>by cases hc
 | k+1,n,c,hc=>by
  rcases Ν.mp hc with e | hc
  ·rw [e];exact Ξ (Cq h n)
  ·exact Nf h k _ c hc
theorem Ng {sg:List Nat} (h:0<sg.length):∀ (s:Nat) (j:Int),0<=j->j<(cj sg s).length->(cj sg s)[j.toNat]?=some (dg sg s j).reverse
 | 0,j,h0,h1=>by
  have:j=0:=by simp [cj] at h1;omega
  subst this;rfl
 | s+1,j,h0,h1=>by
  rw [cj,X1,fE] at h1
  have d0:0<=j / (sg.length:Int):=Int.ediv_nonneg h0 (by omega);have ih:=Ng h s (j / sg.length) d0 (Int.ediv_lt_of_lt_mul (by omega) h1);have:=Bc (g:=λ(x:List Nat) (c:Nat)=>x++[c]) (Cq h j) ih;rw [cj,dg,List.reverse_cons,<- this]
  congr 1
  have e:=Int.ediv_mul_add_emod j sg.length;have m0:0<=j%(sg.length:Int):=eB _ (by omega);obtain ⟨a,ha⟩:=fo d0;obtain ⟨b,hb⟩:=fo m0;rw [ha,hb] at e
  rw [ha,hb,<- e,<- fE,<- eA,br,br,br]
theorem Nh:∀ cs:List Nat,uZ [] (cs.map λc=>[c])=cs
 | []=>rfl
 | [c]=>rfl
 | c::d::r=>by
  have:=Nh (d::r);simp only [χ] at this ⊢;rw [uZ,this];rfl
theorem YgR (cs:List Nat):Txt.join ("":Str) (cs.map λc=>S [c])=S cs:=by
 have:=Yhh [] (cs.map λc=>[c]);rw [bo,Nh] at this
 exact this
theorem Vz {l:List Nat} (h:∀ c∈l,c<1000):bu (S l)=true:=by
 simp only [bu,S,Array.all_eq_true',decide_eq_true_eq];intro c hc;have:=h c (by simpa using hc);omega
theorem Ni {Z1 Z3 Z2 Z5 Z6 Z4 Z7 Z0:Addr} (R:g.aD Z4 "value_at" "TextMaker.value_at" z7 ["self","size","number"]) (ao:g.mg "len"=none) (Zg:g.mg "range"=none) (Zd:Cls g.K Z4) (Zz:Yg g.K Z4 "counts") (Zr:Yg g.K Z4 "signs"):g.Me (1) Z4 "value_at" ["self","size","number"] (aW (Cs.mk Z0 Z4 Z5 Z6 Z2 Z3 Z1 Z7) 1 (m+1)):=by
 refine R.me qw (λvs H Q E h=>by obtain ⟨w,t,prs,p,sh,sz,r,rfl,hk,vq,hl,q⟩:=h;rfl) λf_ cdv A outer s H vs Q E hr h=>?_
 obtain ⟨w,t,prs,p,sh,sz,r,rfl,hk,vq,hl,q⟩:=h;refine ⟨_,(Yf (Yp (i:=3) qw.nd rfl (.inl rfl) (Y0 Yd)) (Yf (Yp (i:=4) qw.nd rfl (.inl rfl) (pv 2)) (Yf (Xt ar rfl (Y2 rfl Zg (Ya (pv 1) Yd)) (Yu (i:=5) qw.nd rfl (.inl rfl)) (Yf (Y9 (VF dQ fh fg XJ (pv 3) (Ya (Yr GJ (Yx (pv 0) rfl) (Ym Xg (pv 4) (YU ao W9 (Ya (Yx (pv 0) rfl) Yd)))) Yd))) (Yi (Yp (i:=4) qw.nd rfl (.inl rfl) (Ym YX (pv 4) (YU ao W9 (Ya (Yx (pv 0) rfl) Yd))))))) (Yf (Y9 (Yhd dQ PySem.F.slot_list_reverse PySem.F.type_list_reverse Yc0 (pv 3) (by rfl) (by rfl))) (Yi (Yn (VF PySem.F.plainAttrs_str PySem.F.slot_str_join PySem.F.type_str_join Ygr YO (Ya (pv 3) Yd)))))))),?_⟩
 cases sh with
 | t sg =>
  obtain ⟨dx,c,fs,hU,hd,hsm,hns,hp,bV,hc,hsub⟩:=vq.W.at_ p _ vq.rg;obtain ⟨e,Nj⟩:=hsub;subst e;have hok:=vq.ok;rw [aH] at hok
  obtain ⟨h0,_,hck⟩:=hok;have bU:=vq.bU;walk_at "rd";refine ⟨few (by decide),λF gF=>?_⟩;refine Xq (n:=sz) (λi σ H'=>∃ o5,σ=[some (.ref p),some (.int sz),some (.int r),some (.ref F),some (.int (nM sg.length i r)),o5]/\Yk H H'/\H' F=some (.lst ((dg sg i r).map λc=>V.str (S [c])))) (λR r=>by walk_at "rd";exact r) (by omega) ⟨_,rfl,.aj gF _,Yb⟩ ?_ ?_
  ·rintro i σ H' hi ⟨o5,rfl,sm,hF⟩
   have hp':=sm _ _ hp;have hpF:p≠F:=Yl hp gF;walk_at "rd";refine ⟨.inl ⟨rfl,_,au.of hF⟩,_,_,_,hp',Zd,Zr,_,rfl,_,_,_,hp',Zd,Zr,_,rfl,_,rfl,by rw [Xx];exact few (by omega),by rw [Xx];omega,?_⟩;rw [Xx];refine ⟨_,_,_,rfl,rfl,by rw [Xx];exact few (by omega),by rw [WK];exact EY h0 _,_,hF,by rw [Β,V7];exact few (by omega),_,_,_,(Ye hpF).trans hp',Zd,Zr,_,rfl,_,rfl,?_⟩;exact ⟨by rw [Xx];exact few (by omega),by rw [Xx];exact YS (by omega) (by omega),by rw [Xx];rfl,.cu gF sm _,by rw [Yb,Nb,bc];rfl⟩
  ·rintro σ H' ⟨o5,rfl,sm,hF⟩
   walk_at "rd";refine ⟨.inl ⟨rfl,_,au.of hF⟩,_,hF,rfl,?_⟩;have e1:((dg sg sz r).map λc=>V.str (S [c])).reverse=(dg sg sz r).reverse.map λc=>V.str (S [c]):=by rw [List.map_reverse]
   rw [e1];refine ⟨"",F,(dg sg sz r).reverse.map λc=>S [c],rfl,rfl,by rw [bo];exact au.of Yb,?_,?_⟩
   ·rw [bo,Β,b7,V7]
    have:((λx:Str=>x.length) ∘ λc=>S [c])=λ_=>1:=by funext c;simp [Xx]
    rw [this,List.map_const',List.sum_replicate_nat,b7,V7];have:("":Str).length=0:=by decide +kernel
    rw [this];omega
   ·rw [YgR]
    have r1:=vq.r1;rw [cnt,VT,Β] at r1
    exact q _ _ [] t _ ((Tr.refl vq.W _ _).same (.cu gF sm _)) ⟨.str _ (Vz λc hc=>hck c (Nf h0 _ _ c (iq.mp hc))),.nil,λ_ h=>by cases h⟩ (by rw [VT,Λ,Ng h0 sz r vq.r0 r1];rfl)
 | _=>cases hk
theorem Nk {k:Nat} {Z1 Z3 Z2 Z5 Z6 Z4 Z7 Z0:Addr} (R:g.aD Z1 "value_at" "AlikeMaker.value_at" Av ["self","size","number"]) (aZ:g.dR k "value_at" ["self","size","number"] (Ul (Cs.mk Z0 Z4 Z5 Z6 Z2 Z3 Z1 Z7) (m))) (Zg:g.mg "range"=none) (Za:Cls g.K Z1) (Zw:Yg g.K Z1 "counts") (Zx:Yg g.K Z1 "part") (Zk:Yg g.K Z1 "times"):g.Me (k+1) Z1 "value_at" ["self","size","number"] (aW (Cs.mk Z0 Z4 Z5 Z6 Z2 Z3 Z1 Z7) 6 (m+1)):=by
 refine R.me Z3C (λvs H Q E h=>by obtain ⟨w,t,prs,p,sh,sz,r,rfl,hk,vq,hl,q⟩:=h;rfl) λf_ cdv A outer s H vs Q E hr h=>?_
 obtain ⟨w,t,prs,p,sh,sz,r,rfl,hk,vq,hl,q⟩:=h;refine ⟨_,(Yi (Yn (Xn (src:=[none,some 2,some 0,some 1]) (N':=(["each","number","self","size"]:List Str)) (g:=Yv 0) (.own (.cap (i:=2) rfl rfl (by first | exact .inl rfl | exact .inr rfl) (.cap (i:=0) rfl rfl (by first | exact .inl rfl | exact .inr rfl) (.cap (i:=1) rfl rfl (by first | exact .inl rfl | exact .inr rfl) .nil)))) rfl (Y2 rfl Zg (Ya (Yx (pv 0) rfl) Yd)) (λcl C s₀ H₀ fp pn=>(Yu (i:=0) (show ay (["each","number","self","size"]:List Str) by decide +kernel) rfl (.inl rfl) (.inr rfl))) (λcl C s₀ H₀ fp pn=>Y5) (λcl C s₀ H₀ fp pn=>(XH aZ hr (QL (K:=g.K) (pv 2) rfl) (Ya (Ym Y3 (Ym YX (pv 3) (QL (K:=g.K) (pv 2) rfl)) Yh) (Ya (pv 1) Yd))))))),?_⟩
 cases sh with
 | alike s k =>
  obtain ⟨dx,c,fs,hU,hd,hsm,hns,hp,bV,hc,hsub⟩:=vq.W.at_ p _ vq.rg;obtain ⟨⟨a,e,hga,hcn⟩,hk1,hk2⟩:=id hsub;have e:fs=fA k a:=e;subst e;have hdr:dep (.alike s k)=dep s+1:=by rw [dep]
  have hok:=vq.ok;rw [aH] at hok
  have bU:=vq.bU;have cn:=vq.cn;have cR:=vq.wt;rw [wt] at cR
  have r1:=vq.r1;rw [Uf] at r1
  have hz:¬ (sz<k\/sz%k≠0):=λz=>by rw [if_pos z] at r1;have:=vq.r0;omega
  rw [if_neg hz] at r1
  have h1:1<=sz / k:=(Nat.one_le_div_iff (by omega)).mpr (by omega);have h2:sz / k<=sz:=dm _ _;obtain ⟨j,hj⟩:∃ j,sz / k=j+1:=⟨sz / k - 1,by omega⟩;have ediv:(sz:Int) / (k:Int)=((sz / k:Nat):Int):=rfl;have hcn:(t.ns p - 1) / k<=t.ns a:=hcn;have hjn:j<t.ns a:=by
   have:sz / k<=(t.ns p - 1) / k:=Nat.div_le_div_right (by omega);omega
  rw [hj,cw] at r1
  have hrl:r.toNat<(en w.bk s j).length:=by
   rw [cnt] at r1
   have:=vq.r0;omega
  have hd0:(en w.bk s j)[r.toNat]?=some (en w.bk s j)[r.toNat]:=Ε hrl;generalize (en w.bk s j)[r.toNat]=d0 at hd0;refine WU (n:=k) (λX i zs H'=>∃ (t':Sw) (L:List Addr),Tr (Cs.mk Z0 Z4 Z5 Z6 Z2 Z3 Z1 Z7) w t H t' H' 6 0/\zs.length=i/\H' X=some (.lst zs)/\¬ t'.U X/\X∉L/\dW w.D H H' zs (eW i d0) L) (λR r=>by walk_at "rd";exact ⟨_,_,_,hp,Za,Zk,_,Vd _ _ _,r⟩) (by omega) ?_ ?_ ?_ ?_
  ·intro X hX
   exact ⟨t,[],(Tr.refl vq.W _ _).put hX (vq.W.new hX).2 _,rfl,Yb,(vq.W.new hX).2,(λh=>by cases h),.nil⟩
  ·rintro X i zs H' ⟨t',L,_,h1,h2,_⟩
   exact ⟨h1,h2⟩
  ·rintro X i zs H' hX hi ⟨t',L,T1,hz1,fY,nP,hL,hv⟩ R rr
   have dX:w.D X=none:=(vq.W.new hX).1;have VA:VQ (Cs.mk Z0 Z4 Z5 Z6 Z2 Z3 Z1 Z7) w t' H' prs a s j r:=⟨T1.wi,hga,vq.ob,vq.bk,hok.1,by omega,vq.M,by have:=(T1.gr a s hga).up;omega,by omega,vq.r0,r1,λp' sh' hr'=>(T1.gr p' sh' hr').un (vq.rd p' sh' hr')⟩;walk_at "rd";refine ⟨_,_,_,T1.fr _ _ hU.1 hp,Za,Zx,_,UD _ _ _,a,rfl,?_⟩;refine (W1 (l:=m) (Q:=λv H2=>R v H2) VA (by omega) λv d L2 t2 H2 T2 hv2 hva=>?_).map λsp h=>⟨_,_,_,T1.fr _ _ hU.1 hp,Za,Zk,_,Vd _ _ _,_,rfl,YS (by omega) (by omega),?_⟩
   ·rw [hd0] at hva
    cases Δ hva
    have hX2:=T2.fr _ _ dX fY;obtain ⟨VS,hL2⟩:=hv.put hL T2.fr hv2 (by rw [fY];intro z;cases z) hX2 (o' := .lst (zs++[v])) λa e=>T1.free e
    exact rr _ _ hX2 ⟨t2,L++L2,(T1.trans T2).put hX (T2.ours nP fY) _,by rw [Μ,hz1];rfl,Yb,T2.ours nP fY,hL2,by rw [List.replicate_succ'];exact VS⟩
   ·rw [ediv,hj,show ((j+1:Nat):Int) - 1=(j:Int) by omega]
    exact h
  ·rintro X zs H' hX ⟨t',L,T1,hz1,fY,nP,hL,hv⟩
   exact q _ _ _ t' H' T1 (hv.lst (vq.W.new hX).1 fY (by omega) hL hX) (by rw [Vc,if_neg hz,hj,cw,Λ,hd0];rfl)
 | _=>cases hk
inductive MV (C:Cs) (w:Wo) (t:Sw) (H:Hp) (p X:Addr) (s:Sh) (sz:Nat) (r:Int) (x:Nat×Int) (σ:St) (H':Hp):Prop
 | mk (o6:Option V) (vs:List V) (ds:List Γ) (t':Sw) (e:σ=[some (.ref p),some (.int (sz:Nat)),some (.int r),some (.ref X),some (.int (x.1:Nat)),some (.int x.2),o6]) (l:vs.length+x.1<=sz) (hd:H' X=some (.lst vs)) (hU:¬ t'.U X) (r0:0<=x.2) (r1:x.2<cnt w.bk (.many s) x.1) (T:Tr C w t H t' H' 6 0) (L:List Addr) (hL:X∉L) (v:dW w.D H H' vs ds L) (a:∀ es,(cC (en w.bk s) x.1)[x.2.toNat]?=some es->(cC (en w.bk s) sz)[r.toNat]?=some (ds++es))
theorem Nm {k:Nat} {Z1 Zl Z3 Z2 Z5 Z6 Z4 Z7 Z0:Addr} (R:g.aD Z3 "value_at" "ManyMaker.value_at" Ao ["self","size","number"]) (qK:g.Fn k "found_in" ["blocks","number"] (vK g.K Zl)) (Bp:g.Me k Z3 "blocks_at" ["self","left"] (qD (Cs.mk Z0 Z4 Z5 Z6 Z2 Z3 Z1 Z7) 91)) (aZ:g.dR k "value_at" ["self","size","number"] (Ul (Cs.mk Z0 Z4 Z5 Z6 Z2 Z3 Z1 Z7) (m))) (ZL:Cls g.K Zl) (ZG:Yg g.K Zl "place") (ZI:Yg g.K Zl "choice") (ZT:Yg g.K Zl "rest") (Zc:Cls g.K Z3) (Zq:Yg g.K Z3 "counts") (Zt:Yg g.K Z3 "part"):g.Me (k+1) Z3 "value_at" ["self","size","number"] (aW (Cs.mk Z0 Z4 Z5 Z6 Z2 Z3 Z1 Z7) 4 (m+1)):=by
 refine R.me lD (λvs H Q E h=>by obtain ⟨w,t,prs,p,sh,sz,r,rfl,hk,vq,hl,q⟩:=h;rfl) λf_ cdv A outer s H vs Q E hr h=>?_
 obtain ⟨w,t,prs,p,sh,sz,r,rfl,hk,vq,hl,q⟩:=h;refine ⟨_,(Yf (Yp (i:=3) lD.nd rfl (.inl rfl) (Y0 Yd)) (Yf (Yp (i:=4) lD.nd rfl (.inl rfl) (pv 1)) (Yf (Yp (i:=5) lD.nd rfl (.inl rfl) (pv 2)) (Yf (W6 ar (Yq xO (pv 4) Yh (Ys _)) (Yf (Yp (i:=6) lD.nd rfl (.inl rfl) (YA qK hr (Ya (Xz Bp Zc hr (pv 0) (Ya (pv 4) Yd)) (Ya (pv 5) Yd)))) (Yf (Y9 (VF F.plainAttrs_list F.slot_list_append F.type_list_append XJ (pv 3) (Ya (XH aZ hr (Yx (pv 0) rfl) (Ya (Yx (pv 6) rfl) (Ya (Yx (pv 6) rfl) Yd))) Yd))) (Yf (U5 (i:=4) lD.nd rfl (.inl rfl) (Ym YZ Yh (Yx (pv 6) rfl)) xq) (Yi (Yp (i:=5) lD.nd rfl (.inl rfl) (Yx (pv 6) rfl))))))) (Yi (Yn (pv 3))))))),?_⟩
 cases sh with
 | many s =>
  obtain ⟨dx,c,fs,hU,hd,hsm,hns,hp,bV,hc,hsub⟩:=vq.W.at_ p _ vq.rg;obtain ⟨a,e,hga,hcn⟩:=id hsub;have e:fs=fM a:=e;subst e;have hdr:dep (.many s)=dep s+1:=by rw [dep]
  have hok:=vq.ok;rw [aH] at hok
  have bU:=vq.bU;have cn:=vq.cn;have hM:=vq.M;have cR:=vq.wt;rw [wt] at cR
  have mwt:wt (.many s)=wt s+1:=by rw [wt]
  walk_at "rd";refine ⟨few (by decide),λX hX=>?_⟩;obtain ⟨dX,uX⟩:=vq.W.new hX;have sX:=Yk.aj hX (.lst []);refine X6 (α:=Nat×Int) (MV (Cs.mk Z0 Z4 Z5 Z6 Z2 Z3 Z1 Z7) w t H p X s sz r) (λx=>decide (0<x.1)) (λx=>x.1) (sz,r) ⟨none,[],[],t,rfl,by simp,Yb,uX,vq.r0,vq.r1,(Tr.refl vq.W _ _).put hX uX _,[],(λh=>by cases h),.nil,λes h=>h⟩ ?_ ?_ ?_
  ·rintro ⟨l,YG⟩ σ H' ⟨o6,vs,ds,t',rfl,h1,h2,h3,h4,h5,T,L,hL,hv,hva⟩ R rr
   have:=rr H' ⟨o6,vs,ds,t',rfl,h1,h2,h3,h4,h5,T,L,hL,hv,hva⟩;walk_at "rd";simpa using this
  ·rintro ⟨l,YG⟩ σ H' ⟨o6,vs,ds,t',rfl,h1,fY,nP,h4,h5,T1,L,hL,hv,hva⟩ hcond
   have hl0:0<l:=of_decide_eq_true hcond;obtain ⟨i,rfl⟩:∃ i,l=i+1:=⟨l - 1,by omega⟩;dsimp only at h1 h4 h5 hva;have hp1:=T1.fr _ _ hU.1 hp;have Np:∀ p' sh',w.reg p'=some sh'->gR t' p':=λp' sh' hr'=>(T1.gr p' sh' hr').un (vq.rd p' sh' hr')
   have up:=(T1.gr p _ vq.rg).up;have cb:=λ(f:Nat) (hf:f<=i)=>Ui prs vq.ob s f (by omega) hok (by omega)
   have mb:=λ(f:Nat) (hf:f<=i)=>Ui prs vq.ob (.many s) f (by omega) (by rw [aH];exact hok) (by omega)
   have nn:∀ x∈gO w.bk s (i+1),0<=x.1/\0<=x.2:=λx hx=>by
    obtain ⟨f,_,rfl⟩:=QW hx;exact ⟨tZ _ _ _,tZ _ _ _⟩
   have Nq:YG<Xm (gO w.bk s (i+1)):=by rw [Xm,Ku];exact h5
   have mat:=MF (g:=ck) (A:=λf=>en w.bk s f) (B:=λf=>cC (en w.bk s) (i - f)) (n:=i+1) (Bs:=gO w.bk s (i+1)) (a9 λf _=>by rw [cnt,cnt,Xs,Β,cw]) h4 Nq;rw [<- XC] at mat
   walk_at "rd";refine ⟨_,_,hp1,Wm (by decide +kernel) hsub,w,t',p,s,i+1,rfl,T1.wi,vq.rg,by omega,by omega,by unfold fu;rw [hM];omega,λp' sh' hr' _=>Np p' sh' hr',λD t3 H3 T3 gD cX hB hpc=>?_⟩;refine ⟨D,_,YG,rfl,hB,by rw [Ks];omega,λx hx=>?_,nn,h4,Nq,λf M5 H4 s4 gf hf=>?_⟩
   ·obtain ⟨f,hf,rfl⟩:=QW hx
    rw [vq.bk];have c1:=cb f (by omega);have c2:=mb (i+1 - 1 - f) (by omega);exact Cg c1.1 c1.2 c2.1 c2.2 (by omega) (by omega)
   ·generalize aL (gO w.bk s (i+1)) YG=fd at mat hf
    obtain ⟨m1,m2,m3,m4,m5,mat⟩:=mat;have T4:=T3.same s4;have nJ:=T1.trans (T4.mono (by omega));have vL:=T4.fr _ _ dX fY;have R9:=T4.ours nP fY;have hp4:=nJ.fr _ _ hU.1 hp;have hna:=hpc dx c a hp1;have VA:VQ (Cs.mk Z0 Z4 Z5 Z6 Z2 Z3 Z1 Z7) w t3 H4 prs a s fd.1 fd.2.1:=⟨T4.wi,hga,vq.ob,vq.bk,hok,by omega,vq.M,by omega,by omega,m2,m3,λp' sh' hr'=>(T4.gr p' sh' hr').un (Np p' sh' hr')⟩;refine ⟨.inl ⟨rfl,_,au.of vL⟩,_,_,_,hp4,Zc,Zt,_,UD _ _ _,a,rfl,?_⟩;refine (W1 (l:=m) VA (by omega) λv d L5 t5 H5 T5 Cm uo=>?_).map λsp h=>⟨f,rfl,_,_,_,hf,ZL,ZG,_,Vk _ _ _,f,rfl,_,_,_,hf,ZL,ZI,_,Qu _ _ _,h⟩
    have Cr:=T5.fr _ _ dX vL;have Cu:=T5.ours R9 vL;have qL:=T5.fr _ _ (T3.wi.new gf).1 hf;have nfX:f≠X:=Y8 qL Cr (by simp);have qM:=(Ye (H:=H5) (o := .lst (vs++[v])) nfX).trans qL;obtain ⟨VS,iM⟩:=(hv.fr T4.fr).put hL T5.fr Cm (by rw [vL];intro z;cases z) Cr (o' := .lst (vs++[v])) λa e=>nJ.free e
    refine ⟨_,Cr,few (by omega),f,rfl,_,_,_,qM,ZL,ZG,_,Vk _ _ _,_,rfl,f,rfl,_,_,_,qM,ZL,ZT,_,M6 _ _ _,(i - fd.1,fd.2.2),?_,by dsimp only;omega⟩;refine ⟨_,vs++[v],ds++[d],t5,by dsimp only;rw [show ((i+1:Nat):Int) - (1+(fd.1:Nat))=((i - fd.1:Nat):Int) by omega],by rw [Μ,aE];dsimp only;omega,Yb,Cu,m4,by rw [cnt,Xs,Β];exact m5,(nJ.trans T5).put hX Cu _,_,iM,VS,λes he=>?_⟩;rw [cE];exact hva _ (mat d es uo he)
  ·rintro ⟨l,YG⟩ σ H' ⟨o6,vs,ds,t',rfl,h1,fY,nP,h4,h5,T1,L,hL,hv,hva⟩ hcond
   have hl0:l=0:=by have:=of_decide_eq_false hcond;dsimp only at this;omega
   subst hl0;dsimp only at h1 h4 h5 hva;rw [JN] at h5
   have h1':=hva [] (by rw [VR,show YG=0 by omega];rfl);rw [a8] at h1'
   walk_at "rd";exact q _ _ _ t' H' T1 (hv.lst dX fY (by omega) hL hX) (by rw [Xs,Λ,h1'];rfl)
 | _=>cases hk
section
variable {src:List (Option Nat)} {te:TE} {σ:St} {H:Hp} {Q:VK}
theorem Ydr {ta:TA} {n:Nat} (Z:Hp->Prop) (ha:∀ R:List V->Hp->Prop,(∀ H1,Z H1->R [.int n] H1)->ta σ H R) (hlen:n<=100000)
  (hz:∀ H1,Z H1->∃ I:Addr->Nat->List V->Hp->Prop,(∀ D,H1 D=none->I D 0 [] (upd H1 D (.lst [])))/\(∀ D i zs H',I D i zs H'->zs.length=i/\H' D=some (.lst zs)) /\
   (∀ D i zs H',H1 D=none->i<n->I D i zs H'->∀ R:VK,(∀ y aG,aG D=some (.lst zs)->I D (i+1) (zs++[y]) (upd aG D (.lst (zs++[y])))->R y aG)->te (some (.int i)::Yy src σ) H' R) /\
   ∀ D zs H',H1 D=none->I D n zs H'->Q (.ref D) H'):cW (none::src) (Uq ta) (Yv 0) XF te σ H Q:=by
 refine ha _ λH1 hZ=>⟨n,rfl,by omega,by omega,λD hD=>?_⟩
 obtain ⟨I,i0,dl,step,fin⟩:=hz H1 hZ;have h6:100000<sizeLine:=by decide
 refine WR (WF (lo:=0) (n:=n) (P:=λ_=>True)) (λi zs σ' H'=>(∃ o,σ'=o::Yy src σ)/\i<=n/\I D i zs H') ⟨⟨none,rfl⟩,ν _,i0 D hD⟩ (λi zs σ' H' q=>⟨trivial,(dl _ _ _ _ q.2.2).2⟩) (XQ 0) ?_ ?_
 ·rintro i zs σ' H' x hx ⟨⟨o,rfl⟩,_,hI⟩
  have hi:i<n:=by have:=(Η.mp hx).1;simpa using this
  rw [Λ,aS hi] at hx
  have e:V.int (0+(i:Int))=x:=Δ hx;rw [ke] at e
  subst e;have hl:=(dl _ _ _ _ hI).1
  show te (some (.int i)::Yy src σ) H' _
  exact step D i zs H' hD hi hI _ λy aG hd hI'=>⟨hd,by omega,⟨_,rfl⟩,hi,hI'⟩
 ·rintro zs σ' H' ⟨_,_,hI⟩
  exact fin D zs H' hD (by simpa using hI)
end
structure AQ (C:Cs) (w:Wo) (t:Sw) (H:Hp) (prs:aR) (p:Addr) (sh:Sh) (s:Nat):Prop where
 W:WI C w t H
 rg:w.reg p=some sh
 ob:jt prs
 bk:w.bk=aF prs
 ok:aH prs sh
 wt:wt sh<=24
 M:w.M=2
 bU:s<=5
 rd:∀ p sh,w.reg p=some sh->gR t p
 dp:dep sh<=2
theorem AQ.call {C:Cs} {w:Wo} {t:Sw} {H:Hp} {prs:aR} {p:Addr} {sh:Sh} {s:Nat} {Q:VK} (h:AQ C w t H prs p sh s) (q:∀ t' H',Tr C w t H t' H' 6 0->s<t'.ns p->Q (.int (cnt w.bk sh s)) H'):iU (Vo C 91) H p "count_at" λsp=>sp [.ref p,.int s] H Q E0:=by
 have h1:=h.bU;have h2:=h.dp;exact WA h.W h.rg (by omega) (by unfold fu;rw [h.M];omega) (λp' sh' hr' _=>h.rd p' sh' hr') λt' H' T n=>q t' H' (T.mono (by omega)) n
theorem AQ.on {C:Cs} {w:Wo} {t t':Sw} {H H':Hp} {prs:aR} {p:Addr} {sh:Sh} {s a b:Nat} (h:AQ C w t H prs p sh s) (T:Tr C w t H t' H' a b):AQ C w t' H' prs p sh s:=⟨T.wi,h.rg,h.ob,h.bk,h.ok,h.wt,h.M,h.bU,λp' sh' hr'=>(T.gr p' sh' hr').un (h.rd p' sh' hr'),h.dp⟩
theorem AQ.vq {C:Cs} {w:Wo} {t:Sw} {H:Hp} {prs:aR} {p:Addr} {sh:Sh} {s:Nat} {r:Int} (h:AQ C w t H prs p sh s) (n:s<t.ns p) (h0:0<=r) (h1:r<cnt w.bk sh s):VQ C w t H prs p sh s r:=⟨h.W,h.rg,h.ob,h.bk,h.ok,h.wt,h.M,n,h.bU,h0,h1,h.rd⟩
inductive Nr (C:Cs) (vs:List V) (H:Hp) (Q:VK) (E_:XK):Prop
 | mk (w:Wo) (t:Sw) (prs:aR) (p:Addr) (sh:Sh) (s:Nat) (h0:vs=[.ref p,.int (s:Nat)]) (h1:AQ C w t H prs p sh s) (h2:(en w.bk sh s).length<=10000) (h3:∀ X L t' H',Tr C w t H t' H' 6 0->VW w.D H H' (.ref X) (.list (en w.bk sh s)) L->Q (.ref X) H')
inductive MA (C:Cs) (w:Wo) (t:Sw) (H:Hp) (p:Addr) (sh:Sh) (s:Nat) (X:Addr) (i:Nat) (zs:List V) (H':Hp):Prop
 | mk (t':Sw) (L:List Addr) (l:zs.length=i) (hd:H' X=some (.lst zs)) (hU:¬ t'.U X) (hX:H X=none) (hn:s<t'.ns p) (T:Tr C w t H t' H' 6 0) (hL:X∉L) (v:dW w.D H H' zs ((en w.bk sh s).take i) L)
theorem YbN {k:Nat} {Z1 Z3 Z2 Z5 Z6 Z4 Z7 Z0:Addr} (R:g.Raw "all_made" "all_made" zx ["maker","size"]) (aU:g.dR k "count_at" ["self","size"] (Vo (Cs.mk Z0 Z4 Z5 Z6 Z2 Z3 Z1 Z7) (91))) (aZ:g.dR k "value_at" ["self","size","number"] (Ul (Cs.mk Z0 Z4 Z5 Z6 Z2 Z3 Z1 Z7) (18))) (Zg:g.mg "range"=none):g.Fn (k+1) "all_made" ["maker","size"] (Nr (Cs.mk Z0 Z4 Z5 Z6 Z2 Z3 Z1 Z7)):=by
 refine R.fn YbH (λvs H Q E h=>by obtain ⟨w,t,prs,p,sh,s,rfl,aq,hc,q⟩:=h;rfl) λf_ cdv A outer s H vs Q E hr h=>?_
 obtain ⟨w,t,prs,p,sh,s,rfl,aq,hc,q⟩:=h;refine ⟨_,(Yi (Yn (Xn (src:=[none,some 1,some 0]) (N':=(["number","size","maker"]:List Str)) (g:=Yv 0) (.own (.cap (i:=1) rfl rfl (by first | exact .inl rfl | exact .inr rfl) (.cap (i:=0) rfl rfl (by first | exact .inl rfl | exact .inr rfl) .nil))) rfl (Y2 rfl Zg (Ya (XH aU hr (pv 0) (Ya (pv 1) Yd)) Yd)) (λcl C s₀ H₀ fp pn=>(Yu (i:=0) (show ay (["number","size","maker"]:List Str) by decide +kernel) rfl (.inl rfl) (.inr rfl))) (λcl C s₀ H₀ fp pn=>Y5) (λcl C s₀ H₀ fp pn=>(XH aZ hr (pv 2) (Ya (pv 1) (Ya (pv 0) Yd))))))),?_⟩;have bU:=aq.bU;have dp:=aq.dp;refine Ydr (n:=(en w.bk sh s).length) (λH1=>∃ t1,Tr (Cs.mk Z0 Z4 Z5 Z6 Z2 Z3 Z1 Z7) w t H t1 H1 6 0/\s<t1.ns p) (λR r=>?_) (by omega) ?_
 ·walk_at "rd"
  exact aq.call λt1 H1 T1 n1=>r H1 ⟨t1,T1,n1⟩
 ·rintro H1 ⟨t1,T1,n1⟩
  refine ⟨MA (Cs.mk Z0 Z4 Z5 Z6 Z2 Z3 Z1 Z7) w t H p sh s,λX hX=>?_,λX i zs H' ⟨_,_,l,hd,_,_,_,_,_,_⟩=>⟨l,hd⟩,?_,?_⟩
  ·have n:=T1.wi.new hX
   exact ⟨t1,[],rfl,Yb,n.2,T1.free hX,n1,T1.put (T1.free hX) n.2 _,(λh=>by cases h),.nil⟩
  ·rintro X i zs H' fY hi ⟨t',L,hl,hd,hU,hX,hn,T,hL,v⟩ R r
   have aq':=aq.on T;have dX:w.D X=none:=(aq.W.new hX).1;have hdi:(en w.bk sh s)[i]?=some (en w.bk sh s)[i]:=Ε hi;walk_at "rd";refine W1 (l:=18) (aq'.vq hn (by omega) (by rw [cnt];omega)) (by omega) λu d L2 t2 H2 T2 hv hva=>?_
   have hd2:=T2.fr _ _ dX hd;rw [br,hdi] at hva
   cases Δ hva
   obtain ⟨VS,hL2⟩:=v.put hL T2.fr hv (by rw [hd];intro z;cases z) hd2 (o' := .lst (zs++[u])) λa e=>T.free e
   rw [<- YT hdi] at VS
   exact r u H2 hd2 ⟨t2,L++L2,by rw [Μ,hl];rfl,Yb,T2.ours hU hd,hX,ξ hn (T2.gr p _ aq.rg).up,(T.trans T2).put hX (T2.ours hU hd) _,hL2,VS⟩
  ·rintro X zs H' fY ⟨t',L,hl,hd,hU,hX,hn,T,hL,v⟩
   rw [bz] at v
   exact q X _ t' H' T (v.lst (aq.W.new hX).1 hd (by omega) hL hX)
theorem YhE {C:Cs} {prs:aR} {H H1:Hp} {p:Addr} {sh:Sh} {s:Nat} (h:MW C prs 2 H H1 p sh) (ob:jt prs) (ok:aH prs sh) (hw:wt sh<=24) (hd:dep sh<=2) (hs:s<=5):∃ w U,AQ C w (t0 U) H1 prs p sh s/\∀ t' H',Tr C w (t0 U) H1 t' H' 6 0->Yk H H':=by
 obtain ⟨w,U,W,hg,qN,hM,s1,hU⟩:=h;refine ⟨w,U,⟨W,hg,ob,qN,ok,hw,hM,hs,λp' sh' _ i=>rfl,hd⟩,λt' H' T b o e=>T.fr b o ?_ (s1 _ _ e)⟩
 cases z:w.D b with
 | none=>rfl
 | some x =>
  have:=hU b (W.ow b x z);rw [e] at this
  cases this
inductive qO (vs:List V) (H:Hp) (Q:VK) (E_:XK):Prop
 | mk (i j:Int) (h0:vs=[.int i,.int j]) (h1:i<=j) (h2:Q .non H)
theorem Z5d  (R:g.Raw "refuse_too_many" "refuse_too_many" zu ["count","most"]):g.Fn (1) "refuse_too_many" ["count","most"] (qO):=by
 refine R.fn Z55 (λvs H Q E h=>by obtain ⟨i,j,rfl,hij,q⟩:=h;rfl) λf_ cdv A outer s H vs Q E hr h=>?_
 obtain ⟨i,j,rfl,hij,q⟩:=h;refine ⟨_,(Yi (YF (Yq xO (pv 0) (pv 1) (Ys _)) (Yi W4) Yw)),?_⟩;walk_at "rd";rw [if_neg (by omega)];exact q
structure uq (K:Θ) (H:Hp) (prs:aR) (B a:Addr) (sh:Sh) (n:Nat):Prop where
 hB:WQ K H B prs
 hk:DK K H a (kd sh)
 ok:aH prs sh
 ob:jt prs
 wt:wt sh<=24
 dp:dep sh<=2
 hn:n<=5
 hc:(en (aF prs) sh n).length<=10000
inductive Nt (K:Θ) (vs:List V) (H:Hp) (Q:VK) (E_:XK):Prop
 | mk (prs:aR) (B a:Addr) (sh:Sh) (n:Nat) (most:Int) (h0:vs=[.ref B,.ref a,.int n,.int most]) (h1:uq K H prs B a sh n) (h2:((en (aF prs) sh n).length:Int)<=most) (h3:∀ X L H',Yk H H'->fQ H H' (.ref X) (.list (en (aF prs) sh n)) L->Q (.ref X) H')
theorem Yas {k:Nat} {Z1 Z3 Z2 Z5 Z6 Z4 Z7 Z0:Addr} (R:g.gk "all_values" "all_values" zy ["book","shape","size","most"] [.int 400]) (mJ:g.Fn k "maker_for" ["book","shape"] (Mu g.K (Cs.mk Z0 Z4 Z5 Z6 Z2 Z3 Z1 Z7))) (Z5r:g.Fn k "refuse_too_many" ["count","most"] (qO)) (pq:g.Fn k "all_made" ["maker","size"] (Nr (Cs.mk Z0 Z4 Z5 Z6 Z2 Z3 Z1 Z7))) (aU:g.dR k "count_at" ["self","size"] (Vo (Cs.mk Z0 Z4 Z5 Z6 Z2 Z3 Z1 Z7) (91))):g.gH (k+1) "all_values" ["book","shape","size","most"] [.int 400] (Nt g.K):=by
 refine R.Ji Jo (λvs H Q E h=>by obtain ⟨prs,B,a,sh,n,most,rfl,A,hm,q⟩:=h;rfl) λf_ cdv A outer s H vs Q E hr h=>?_
 obtain ⟨prs,B,a,sh,n,most,rfl,A,hm,q⟩:=h;refine ⟨_,(Yf (Yp (i:=4) Jo.nd rfl (.inl rfl) (YA mJ hr (Ya (pv 0) (Ya (pv 1) Yd)))) (Yf (Y9 (YA Z5r hr (Ya (XH aU hr (pv 4) (Ya (pv 2) Yd)) (Ya (pv 3) Yd)))) (Yi (Yn (YA pq hr (Ya (pv 4) (Ya (pv 2) Yd))))))),?_⟩;refine WJ λR rr=>?_
 walk_at "rd";refine ⟨prs,B,a,sh,rfl,A.hB,A.hk,A.ok,A.ob,A.wt,A.dp,λp H1 mw=>rr _ _ (WJ λR rr=>?_)⟩;have s1:Yk H H1:=by obtain ⟨_,_,_,_,_,_,s1,_⟩:=mw;exact s1
 obtain ⟨w,U,aq,same⟩:=YhE mw A.ob A.ok A.wt A.dp A.hn;have qN:=aq.bk;have hc:=A.hc;walk_at "rd";refine aq.call λt1 H2 T1 n1=>?_
 rw [qN];refine ⟨_,_,rfl,hm,rr _ _ ?_⟩;walk_at "rd";refine ⟨w,t1,prs,p,sh,n,rfl,aq.on T1,by rw [qN];exact hc,λX L t' H' T2 hv=>?_⟩;have T:=T1.trans T2;rw [qN] at hv
 exact q X L H' (same t' H' T) ⟨hv.vl.dl,hv.nd,λa ha=>s1.free (T1.free (hv.new a ha))⟩
theorem Sd {H:Hp} {v:V} (h:DV H v .none):v = .non:=by obtain ⟨L,h⟩:=h;cases h;rfl
inductive vM (m:Nat) (vs:List V) (H:Hp) (Q:VK) (E_:XK):Prop
 | mk (v:_) (d:_) (h0:vs=[v]) (h1:DV H v d) (h2:d.depth<m) (h3:∀ v' H' L',Yk H H'->fQ H H' v' d L'->Q v' H')
theorem YeH {vs:List V} {H:Hp} {Q:VK} {E:XK} (h:vM 0 vs H Q E):False:=by
 obtain ⟨v,d,_,_,h,_⟩:=h;omega
theorem vN {k:Nat}  (R:g.Raw "copied" "copied" UU ["thing"]) (vO:g.Fn k "copied" ["thing"] (vM m)) (bZ:g.mg "dict"=none) (ZF:g.mg "isinstance"=none) (bx:g.mg "list"=none) (cF:g.mg "tuple"=none):g.Fn (k+1) "copied" ["thing"] (vM (m+1)):=by
 refine R.fn Yep (λvs H Q E h=>by obtain ⟨v,d,rfl,hv,hdp,q⟩:=h;rfl) λf_ cdv A outer s H vs Q E hr h=>?_
 obtain ⟨v,d,rfl,hv,hdp,q⟩:=h;refine ⟨_,(Yf (YF (X3 (YU ZF Xj (Ya (pv 0) (Ya (WT (T:="list") bx) Yd)))) (Yi (Yn (Xn (src:=[none]) (N':=(["each"]:List Str)) (g:=Yv 0) (.own .nil) rfl (Xl (pv 0)) (λcl C s₀ H₀ fp pn=>(Yu (i:=0) (show ay (["each"]:List Str) by decide +kernel) rfl (.inl rfl) (.inr rfl))) (λcl C s₀ H₀ fp pn=>Y5) (λcl C s₀ H₀ fp pn=>(YA vO hr (Ya (pv 0) Yd))) (by intro x hx;simp at hx)))) Yw) (Yf (YF (X3 (YU ZF Xj (Ya (pv 0) (Ya (WT (T:="tuple") cF) Yd)))) (Yi (Yn (Qh cF VZ (Ya (Xn (src:=[none]) (N':=(["each"]:List Str)) (g:=Yv 0) (.own .nil) rfl (U7 (pv 0)) (λcl C s₀ H₀ fp pn=>(Yu (i:=0) (show ay (["each"]:List Str) by decide +kernel) rfl (.inl rfl) (.inr rfl))) (λcl C s₀ H₀ fp pn=>Y5) (λcl C s₀ H₀ fp pn=>(YA vO hr (Ya (pv 0) Yd))) (by intro x hx;simp at hx)) Yd)))) Yw) (Yf (YF (X3 (YU ZF Xj (Ya (pv 0) (Ya (WT (T:="dict") bZ) Yd)))) (Yi W4) Yw) (Yi (Yn (pv 0)))))),?_⟩;have ty:=hv.ty (K:=g.K);walk_at "rd"
 cases d with
 | list ds =>
  obtain ⟨a,vs,rfl,h,hl,hds⟩:=hv.lB;have e1:=hds.length;refine ⟨_,rfl,_,ty,true,rfl,UR ?_⟩;refine YgE (K:=g.K) (b:=a) (xs:=vs) ds (λR r=>by walk_at "rd";exact r) (au.of h) (by omega) hl ?_ (λD H' L sm ho=>q _ _ _ sm ho);intro i x e H' hx he sm R r;obtain ⟨e',he',Cv⟩:=hds.at hx;rw [he] at he'
  cases he'
  have Nu:=Wi (Ξ he);walk_at "rd";exact ⟨x,e,rfl,Cv.keep sm,by rw [aa] at hdp;omega,λv' aG Cw s' ho=>r v' aG Cw s' ho⟩
 | tuple ds =>
  obtain ⟨a,vs,rfl,h,hl,hds⟩:=hv.oN;have e1:=hds.length;refine ⟨_,rfl,_,ty,false,rfl,Xu ⟨_,rfl,_,ty,true,rfl,UR ?_⟩⟩;refine Yfc (K:=g.K) (b:=a) (xs:=vs) ds (λR r=>by walk_at "rd";exact r) (aJ.of h) (by omega) hl ?_ ?_
  ·intro i x e H' hx he sm R r
   obtain ⟨e',he',Cv⟩:=hds.at hx;rw [he] at he'
   cases he'
   have Nu:=Wi (Ξ he);walk_at "rd";exact ⟨x,e,rfl,Cv.keep sm,by rw [aa] at hdp;omega,λv' aG Cw s' ho=>r v' aG Cw s' ho⟩
  ·intro D H' L sm ho
   obtain ⟨ys,L1,_,h1,h2,h3,_,_⟩:=ho.inv;exact ⟨_,rfl,_,.inl ⟨au.of h1,λp hp=>q _ _ _ (sm.trans (.aj hp _)) (YgF h3 h2 hp)⟩⟩
 | dict xs=>obtain ⟨L,h⟩:=hv;cases h
 | int i=>cases hv.tX;exact ⟨_,rfl,_,ty,false,rfl,Xu ⟨_,rfl,_,ty,false,rfl,Xu ⟨_,rfl,_,ty,false,rfl,Xu (q _ _ _ (.refl _) (VJ (.int _)))⟩⟩⟩
 | bool i=>cases hv.yZ;exact ⟨_,rfl,_,ty,false,rfl,Xu ⟨_,rfl,_,ty,false,rfl,Xu ⟨_,rfl,_,ty,false,rfl,Xu (q _ _ _ (.refl _) (VJ (.bl _)))⟩⟩⟩
 | str x=>obtain ⟨rfl,o⟩:=hv.tY;exact ⟨_,rfl,_,ty,false,rfl,Xu ⟨_,rfl,_,ty,false,rfl,Xu ⟨_,rfl,_,ty,false,rfl,Xu (q _ _ _ (.refl _) (VJ (.str _ o)))⟩⟩⟩
 | none=>cases Sd hv;exact ⟨_,rfl,_,ty,false,rfl,Xu ⟨_,rfl,_,ty,false,rfl,Xu ⟨_,rfl,_,ty,false,rfl,Xu (q _ _ _ (.refl _) (VJ .non))⟩⟩⟩
section
 variable {src:List (Option Nat)} {te:TE} {σ:St} {H:Hp} {Q:VK}
def fj (p:Γ->Bool) (xs:List V) (L:List Γ):List V:=((xs.zip L).filter λq=>p q.2).map (·.1)
theorem YgS (p:Γ->Bool) (xs:List V) (L:List Γ):(fj p xs L).length<=L.length:=by
 unfold fj;rw [Β];refine Τ (List.length_filter_le _ _) ?_;rw [List.length_zip];omega
theorem Yft {p:Γ->Bool} {xs:List V} {L:List Γ} {x:V} {t:Γ} (hl:xs.length=L.length):fj p (xs++[x]) (L++[t])=fj p xs L++(if p t then [x] else []):=by
 unfold fj;rw [List.zip_append hl,List.filter_append,bc]
 congr 1
 by_cases c:p t=true
 ·rw [if_pos c];simp [c]
 ·rw [if_neg c];simp [c]
theorem Cy {p:Γ->Bool} {H:Hp}:∀ {us:List V} {L:List Γ},aY H us L->aY H (fj p us L) (L.filter p)
 | [],[],_ => .nil
 | [],_::_,h=>by have:=h.length;cases this
 | _::_,[],h=>by have:=h.length;cases this
 | u::us,t::L,h=>by
  have h1:=h.inv;have ih:=Cy (p:=p) h1.2;by_cases c:p t=true
  ·rw [List.filter_cons_of_pos c,show fj p (u::us) (t::L)=u::fj p us L by simp [fj,c]]
   exact .cons h1.1 ih
  ·rw [List.filter_cons_of_neg c,show fj p (u::us) (t::L)=fj p us L by simp [fj,c]]
   exact ih
theorem Nv {K:Θ} {tl:TE} {tt:TT} {xs:List V} {L:List Γ} (hxp:xs.length=L.length) (p:Γ->Bool) (ha:∀ R:V->Hp->Prop,(∀ a H1,Yk H H1->au K H1 a xs->R (.ref a) H1)->tl σ H R) (hlen:xs.length<=100000)
  (test:∀ (i:Nat) x t H',xs[i]?=some x->L[i]?=some t->Yk H H'->∀ R:Bool->Hp->Prop,(∀ aG,Yk H' aG->R (p t) aG)->tt (some x::Yy src σ) H' R)
  (step:∀ x H' R,R x H'->te (some x::Yy src σ) H' R)
  (fin:∀ D H',H D=none->Yk H H'->H' D=some (.lst (fj p xs L))->Q (.ref D) H'):cW (none::src) (Wf K tl) (Yv 0) tt te σ H Q:=by
 refine ha _ λa H1 s1 hS=>⟨a,rfl,⟨xs,hS⟩,λD hD=>?_⟩
 have h6:100000<sizeLine:=by decide
 refine Hr (XO.imp λH' (e:Yk H1 H')=>e.seq hS) (λi zs σ' H'=>zs=fj p (xs.take i) (L.take i)/\(∃ o,σ'=o::Yy src σ)/\Yk H1 H'/\H' D=some (.lst zs)) ⟨by simp [fj],⟨none,rfl⟩,.aj hD _,Yb⟩ (λi zs σ' H' q=>⟨q.2.2.1,q.2.2.2⟩) ?_ ?_
 ·rintro i zs σ' H' x hx ⟨hz,⟨o,rfl⟩,sm,hd⟩
  have hi:=(Η.mp hx).1;have hq:L[i]?=some (L[i]'(by omega)):=Ε _;generalize L[i]'(by omega)=qq at hq;have hfl:=YgS p (xs.take i) (L.take i);rw [aw] at hfl
  have ls:(xs.take i).length=(L.take i).length:=by rw [aw,aw,hxp]
  show tt (some x::Yy src σ) H' _
  refine test i x qq H' hx hq (s1.trans sm) _ λH2 s2=>?_
  rw [YT hx,YT hq,Yft ls]
  cases e:p qq with
  | true =>
   refine UR ?_;refine step x H2 _ ⟨s2 _ _ hd,by rw [hz];omega,?_,⟨_,rfl⟩,.cu hD (sm.trans s2) _,Yb⟩;rw [hz];rfl
  | false =>
   refine Xu ⟨?_,⟨_,rfl⟩,sm.trans s2,s2 _ _ hd⟩;rw [hz];simp
 ·rintro zs σ' H' ⟨hz,_,sm,hd⟩
  rw [bz,hxp,bz] at hz
  exact fin D H' (s1.free hD) (s1.trans sm) (by rw [<- hz];exact hd)
end
abbrev Okf (g:Gx) (f:Addr) (fd:bt) (ps:List Str) (sp:Sp):Prop:=bG g.P g.w g.K g.mg g.base cL 30 f fd ps sp/\∀ us:List Α,us.length=ps.length->fN fd ⟨us,[]⟩=pure (ps.zip us)
def jU (g:Gx) (ds:List Γ) (p:Γ->Bool) (H:Hp) (f:Addr):Prop:=∃ fd s,Okf g f fd ["_law_value"] s/\H f=some (fD f fd) /\
 ∀ (H1:Hp) (v:V) (d:Γ) (Q:VK),Yk H H1->DV H1 v d->d∈ds->(∀ H',Yk H1 H'->Q (.bl (p d)) H')->s [v] H1 Q E0
theorem jU.same {g:Gx} {ds:List Γ} {p:Γ->Bool} {H H':Hp} {f:Addr} (h:jU g ds p H f) (s:Yk H H'):jU g ds p H' f:=by
 obtain ⟨fd,sp,h1,h2,h3⟩:=h;exact ⟨fd,sp,h1,s _ _ h2,λH1 v t Q s1=>h3 H1 v t Q (s.trans s1)⟩
inductive lN (g:Gx) (vs:List V) (H:Hp) (Q:VK) (E_:XK):Prop
 | mk (f:Addr) (v:V) (ds:List Γ) (p:Γ->Bool) (d:Γ) (h0:vs=[.ref f,v]) (h1:DV H v d) (h2:d.depth<4) (h3:d∈ds) (h4:jU g ds p H f) (h5:∀ H',Yk H H'->Q (.bl (p d)) H')
theorem Yfu {k:Nat}  (R:g.Raw "holds" "holds" QP ["judge","value"]) (vO:g.Fn k "copied" ["thing"] (vM 4)) (hkc:30<=k):g.Fn (k+1) "holds" ["judge","value"] (lN g):=by
 refine R.fn Yfi (λvs H Q E h=>by obtain ⟨f,v,ds,p,d,rfl,hv,hdp,hm,⟨fd,s1,ok,hf,hj⟩,q⟩:=h;rfl) λf_ cdv A outer s H vs Q E hr h=>?_
 obtain ⟨f,v,ds,p,d,rfl,hv,hdp,hm,⟨fd,s1,ok,hf,hj⟩,q⟩:=h;refine ⟨_,(Yi (Yn (WX Yhi (@Ir _ (g) _ (30) _ _ _ _ _ _ 0 hr (Ya (YA vO hr (Ya (pv 1) Yd)) Yd) (by omega) (by rfl) (by rfl) (by first | exact .inl rfl | exact .inr (.inl rfl) | exact .inr (.inr rfl)) (by decide) (by decide) (by rfl) (by rfl)) Uo (Ys _)))),?_⟩;walk_at "rd";refine ⟨f,fd,_,s1,rfl,ok.1,ok.2,hf,?_⟩;walk_at "rd";refine ⟨v,d,rfl,hv,hdp,λv' H' L' sm ho=>⟨sm _ _ hf,hj H' v' d _ sm ⟨L',ho.vl⟩ hm λH2 s2=>⟨_,rfl,?_⟩⟩⟩;rw [show (p d==true)=p d by cases p d<;>rfl];exact q H2 (sm.trans s2)
inductive jV (g:Gx) (vs:List V) (H:Hp) (Q:VK) (E_:XK):Prop
 | mk (prs:aR) (B a f:Addr) (sh:Sh) (n:Nat) (most:Int) (p:Γ->Bool) (h0:vs=[.ref B,.ref a,.int n,.ref f,.int most]) (h1:uq g.K H prs B a sh n) (h2:((en (aF prs) sh n).length:Int)<=most) (h3:(∀ d∈en (aF prs) sh n,d.depth<4)) (h4:jU g (en (aF prs) sh n) p H f) (h5:∀ D us H',Yk H H'->H' D=some (.lst us)->aY H' us ((en (aF prs) sh n).filter p)->Q (.ref D) H')
theorem YeI {k:Nat}  (R:g.gk "sieved" "sieved" UV ["book","shape","size","judge","most"] [.int 400]) (lO:g.gH k "all_values" ["book","shape","size","most"] [.int 400] (Nt g.K)) (wG:g.Fn k "holds" ["judge","value"] (lN g)):g.gH (k+1) "sieved" ["book","shape","size","judge","most"] [.int 400] (jV g):=by
 refine R.Ji Yeq (λvs H Q E h=>by obtain ⟨prs,B,a,f,sh,n,most,p,rfl,A,hm,hd,hj,q⟩:=h;rfl) λf_ cdv A outer s H vs Q E hr h=>?_
 obtain ⟨prs,B,a,f,sh,n,most,p,rfl,A,hm,hd,hj,q⟩:=h;refine ⟨_,(Yi (Yn (Xn (src:=[none,some 3]) (N':=(["value","judge"]:List Str)) (g:=Yv 0) (.own (.cap (i:=3) rfl rfl (by first | exact .inl rfl | exact .inr rfl) .nil)) rfl (Xl (YA lO.full hr (Ya (pv 0) (Ya (pv 1) (Ya (pv 2) (Ya (pv 4) Yd)))))) (λcl C s₀ H₀ fp pn=>(Yu (i:=0) (show ay (["value","judge"]:List Str) by decide +kernel) rfl (.inl rfl) (.inr rfl))) (λcl C s₀ H₀ fp pn=>(QF (X3 (YA wG hr (Ya (pv 1) (Ya (pv 0) Yd)))))) (λcl C s₀ H₀ fp pn=>(pv 0))))),?_⟩;have hc:=A.hc;walk_at "rd";refine ⟨prs,B,a,sh,n,most,rfl,A,hm,λX L H1 s1 ow=>?_⟩;have dv:DV H1 (.ref X) (.list (en (aF prs) sh n)):=⟨L,ow.vl⟩;obtain ⟨b,us,e,hX,vP,hus⟩:=dv.lB
 cases V.ref.inj e
 have hl:=hus.length;refine Nv (K:=g.K) (tl:=tC (.ref X)) (xs:=us) (L:=en (aF prs) sh n) hl p (λR r=>r X H1 (.refl H1) (au.of hX)) (by omega) ?_ (λx H' R r=>r) ?_
 ·intro i v t H' hv' ht sm R r
  obtain ⟨t',ht',hvt⟩:=hus.at hv';rw [ht] at ht'
  cases Δ ht'
  have hm:=Ξ ht;walk_at "rd";exact ⟨f,v,_,p,t,rfl,hvt.keep sm,hd t hm,hm,hj.same (s1.trans sm),λaG s''=>⟨_,rfl,r aG s''⟩⟩
 ·intro D2 H2 gD2 s2 hd2
  exact q D2 _ H2 (s1.trans s2) hd2 (Cy (hus.keep s2))
inductive lQ (vs:List V) (H:Hp) (Q:VK) (E_:XK):Prop
 | mk (sg:List Nat) (n:Nat) (h0:vs=[.str (S sg),.int n]) (h1:sg.length<=62) (h2:n<=5) (h3:(∀ i,i<=n->(cj sg i).length<=20000)) (h4:∀ D H',Yk H H'->H D=none->H' D=some (.lst ((cj sg n).map λx=>V.str (S x)))->Q (.ref D) H')
theorem Nx {sg:List Nat} {x:List Nat}:∀ {s:Nat},x∈cj sg s->x.length=s
 | 0,h=>by
  cases Φ.mp h
  rfl
 | s+1,h=>by
  rw [cj,bf,be] at h
  obtain ⟨y,hy,h⟩:=h;obtain ⟨c,_,rfl⟩:=ac.mp h;rw [Μ,Nx hy];rfl
theorem WD {α β γ:Type} (g:α->β->γ) {A:List α} {B:List β} {i:Nat} {a:α} (h:A[i]?=some a):bf g (A.take (i+1)) B=bf g (A.take i) B++B.map (g a):=by
 rw [bf,YT h,List.flatMap_append,<- bf];simp
theorem Cz {α β γ:Type} (g:α->β->γ) (A:List α) (B:List β) (i:Nat):(bf g (A.take i) B).length<=(bf g A B).length:=by
 rw [X1,X1];exact dA _ (by rw [aw];exact Nat.min_le_right _ _)
theorem Ybw  (R:g.Raw "_law_texts" "_law_texts" zE ["_law_signs","_law_size_here"]) (Zg:g.mg "range"=none):g.Fn (1) "_law_texts" ["_law_signs","_law_size_here"] (lQ):=by
 refine R.fn lC (λvs H Q E h=>by obtain ⟨sg,n,rfl,Nj,hn,hl,q⟩:=h;rfl) λf_ cdv A outer s H vs Q E hr h=>?_
 obtain ⟨sg,n,rfl,Nj,hn,hl,q⟩:=h;refine ⟨_,(Yf (Yp (i:=2) lC.nd rfl (.inl rfl) (Y0 (Ya YO Yd))) (Yf (Xt ar rfl (Y2 rfl Zg (Ya (pv 1) Yd)) (Yu (i:=3) lC.nd rfl (.inl rfl)) (Yf (Yp (i:=4) lC.nd rfl (.inl rfl) (Y0 Yd)) (Yf (Xt ar rfl (Xl (pv 2)) (Yu (i:=5) lC.nd rfl (.inr rfl)) (Yi (Yp (i:=4) lC.nd rfl (.inl rfl) (Ym V4 (pv 4) (Xn (src:=[none,some 5]) (N':=(["_law_sign","_law_value"]:List Str)) (g:=Yv 0) (.own (.cap (i:=5) rfl rfl (by first | exact .inl rfl | exact .inr rfl) .nil)) rfl (Yhf (pv 0)) (λcl C s₀ H₀ fp pn=>(Yu (i:=0) (show ay (["_law_sign","_law_value"]:List Str) by decide +kernel) rfl (.inl rfl) (.inr rfl))) (λcl C s₀ H₀ fp pn=>Y5) (λcl C s₀ H₀ fp pn=>(Ym U9 (pv 1) (pv 0)))))))) (Yi (Yp (i:=2) lC.nd rfl (.inl rfl) (pv 4)))))) (Yi (Yn (pv 2))))),?_⟩;walk_at "rd";refine ⟨few (by decide),λD0 Ny=>?_⟩;refine Xq (n:=n) (λi σ H'=>∃ D o3 o4 o5,σ=[some (.str (S sg)),some (.int n),some (.ref D),o3,o4,o5]/\Yk H H'/\H D=none/\H' D=some (.lst ((cj sg i).map λx=>V.str (S x)))) (λR r=>by walk_at "rd";exact r) (by omega) ⟨D0,_,_,_,rfl,.aj Ny _,Ny,Yb⟩ ?_ ?_
 ·rintro i σ H1 hi ⟨D,o3,o4,o5,rfl,s1,gD,hD⟩
  walk_at "rd";refine ⟨few (by decide),λM hM=>?_⟩;have sM:=Yk.aj hM (.lst []);have hle:=hl (i+1) (by omega);rw [cj] at hle
  refine Qj (K:=g.K) (xs:=(cj sg i).map λx=>V.str (S x)) (λc j σ H'=>c=D/\∃ M o5,σ=[some (.str (S sg)),some (.int n),some (.ref D),some (.int i),some (.ref M),o5]/\Yk H1 H'/\H1 M=none/\H' M=some (.lst ((bf (λx c=>x++[c]) ((cj sg i).take j) sg).map λx=>V.str (S x)))) (λR r=>by walk_at "rd";exact r D _ ⟨rfl,M,_,rfl,sM,hM,Yb⟩) (λc j σ H' _ ⟨e,M,o5,_,s,_⟩=>by subst e;exact au.of (s _ _ hD)) ?_ ?_
  ·rintro c j x σ H2 hx ⟨rfl,M,o5,rfl,s2,gM,vQ⟩
   rw [Λ] at hx
   obtain ⟨x,hx',rfl⟩:=ε.mp hx;have gJ:=Nx (Ξ hx');walk_at "rd";refine Ygw (l:=sg) (sg.map λc=>V.str (S (x++[c]))) (λR r=>by walk_at "rd";exact r) (by rw [Β]) (by omega) ?_ ?_
   ·intro k c y H' hc hy sm R r
    rw [Λ,hc] at hy
    cases Δ hy
    walk_at "rd";refine ⟨few (by rw [Xx,Xx,gJ];show i+1<=_;omega),?_⟩;rw [uY];exact r H' (.refl _)
   ·intro B H3 hB s3 hB3
    have p1:=Cz (λ(x:List Nat) (c:Nat)=>x++[c]) (cj sg i) sg (j+1);rw [WD _ hx',Μ,Β] at p1
    refine ⟨B,rfl,_,s3 _ _ vQ,_,hB3,few (by rw [Β,Β];omega),λP hP=>⟨(s2.trans s3).trans (.aj hP _),(s2.trans s3).free hP,?_⟩⟩;rw [Yb,WD _ hx',bc,bo];rfl
  ·rintro c σ H2 ⟨rfl,M,o5,rfl,s2,gM,vQ⟩
   walk_at "rd";rw [Β,bz] at vQ
   exact ⟨s1.trans s2,s1.free gM,vQ⟩
 ·rintro σ H1 ⟨D,o3,o4,o5,rfl,s1,gD,hD⟩
  walk_at "rd";exact q D H1 s1 gD hD
theorem Nz:∀ i:Nat,i<=4->(2^i:Int).natAbs<2^8
 | 0,_=>by decide
 | 1,_=>by decide
 | 2,_=>by decide
 | 3,_=>by decide
 | 4,_=>by decide
 | n+5,h=>absurd h (by omega)
theorem Yds {src:List (Option Nat)} {te:TE} {σ:St} {H:Hp} {Q:VK} {ta:TA} {lo hi:Int} {f:Nat->V} (ha:∀ R:List V->Hp->Prop,R [.int lo,.int hi] H->ta σ H R) (hb : -(2^62)<=lo/\lo<2^62 /\ -(2^62)<=hi/\hi<2^62) (hlen:(hi - lo).toNat<=100000)
  (step:∀ (i:Nat) H',i<(hi - lo).toNat->Yk H H'->∀ R:VK,(∀ aG,Yk H' aG->R (f i) aG)->te (some (.int (lo+i))::Yy src σ) H' R)
  (fin:∀ D H',H D=none->Yk H H'->H' D=some (.lst ((ζ (hi - lo).toNat).map f))->Q (.ref D) H'):cW (none::src) (Gd ta) (Yv 0) XF te σ H Q:=by
 refine ha _ ⟨lo,hi,rfl,hb,λD hD=>?_⟩;refine yJ (WF (lo:=lo) (n:=(hi - lo).toNat) (P:=λ_=>True)) ((ζ (hi - lo).toNat).map f) (λ_ _=>trivial) hD (by rw [Β,Β]) (by rw [Β,a4];exact hlen) (λi x y H' hx hy sm R r=>?_) λH'=>fin D H' hD
 have hi:i<(hi - lo).toNat:=by have:=(Η.mp hx).1;simpa using this
 rw [Λ,aS hi] at hx hy
 cases Δ hx
 cases Δ hy
 exact step i H' hi sm R r
theorem Fb:∀ j:Fin 5,∀ span:Fin 7,(1*2^(j.val+1) / 2^1:Int)=2^j.val/\(2^j.val:Int)<2^20/\(0:Int)<2^j.val/\((if (((span.val:Nat):Int)+1:Int)<2*2^j.val then (((span.val:Nat):Int)+1:Int) else 2*2^j.val) - 2^j.val).toNat=(wc ((span.val:Nat):Int) (j.val+1)).toNat:=by decide +kernel
theorem nlen {lo:Int} {j span:Nat} (hj:j<=4) (hs:span<=6):(1*2^(j+1) / 2^1:Int)=2^j/\(2^j:Int)<2^20/\(0:Int)<2^j/\((if (lo+span - lo+1:Int)<2*2^j then (lo+span - lo+1:Int) else 2*2^j) - 2^j).toNat=(wc span (j+1)).toNat:=by
 rw [show lo+(span:Int) - lo=span by omega];exact Fb ⟨j,by omega⟩ ⟨span,by omega⟩
inductive NK (vs:List V) (H:Hp) (Q:VK) (E_:XK):Prop
 | mk (lo:Int) (span n:Nat) (h0:vs=[.int lo,.int (lo+span),.int n]) (h1:span<=6) (h2:n<=5) (h3:∀ D H',Yk H H'->H D=none->H' D=some (.lst ((ζ (wc span n).toNat).map λ(r:Nat)=>V.int (lo+1*2^n / 2^1+(r:Int))))->Q (.ref D) H')
theorem Z63  (R:g.Raw "_law_numbers" "_law_numbers" zF ["_law_low","_law_high","_law_size_here"]) (eG:g.mg "min"=none) (Zg:g.mg "range"=none):g.Fn (1) "_law_numbers" ["_law_low","_law_high","_law_size_here"] (NK):=by
 refine R.fn vf (λvs H Q E h=>by obtain ⟨lo,span,n,rfl,hsp,hn,q⟩:=h;rfl) λf_ cdv A outer s H vs Q E hr h=>?_
 obtain ⟨lo,span,n,rfl,hsp,hn,q⟩:=h;refine ⟨_,(Yf (YF (Yq YL (pv 2) Yh (Ys _)) (Yi (Yn (Y0 (Ya (pv 0) Yd)))) Yw) (Yf (Yp (i:=3) vf.nd rfl (.inl rfl) Yh) (Yf (Xt ar rfl (Y2 rfl Zg (Ya (Ym Y3 (pv 2) Yh) Yd)) (Yu (i:=4) vf.nd rfl (.inl rfl)) (Yi (Yp (i:=3) vf.nd rfl (.inl rfl) (Ym XG Yh (pv 3))))) (Yi (Yn (Xn (src:=[none,some 0]) (N':=(["_law_step","_law_low"]:List Str)) (g:=Yv 0) (.own (.cap (i:=0) rfl rfl (by first | exact .inl rfl | exact .inr rfl) .nil)) rfl (Tn rfl Zg (Ya (pv 3) (Ya (YU eG (Q7 rfl) (Ya (Ym XG Yh (pv 3)) (Ya (Ym YZ (Ym Y3 (pv 1) (pv 0)) Yh) Yd))) Yd)) (by rfl) (by rfl)) (λcl C s₀ H₀ fp pn=>(Yu (i:=0) (show ay (["_law_step","_law_low"]:List Str) by decide +kernel) rfl (.inl rfl) (.inr rfl))) (λcl C s₀ H₀ fp pn=>Y5) (λcl C s₀ H₀ fp pn=>(Ym YZ (pv 1) (pv 0))))))))),?_⟩;walk_at "rd";refine Xy (λc=>?_) (λc=>?_)
 ·have e:n=0:=by omega
  subst e;refine ⟨few (by decide),λD hD=>q D _ (.aj hD _) hD (Yb.trans ?_)⟩;rw [show wc (span:Nat) 0=1 by unfold wc;simp only [Int.pow_zero];split<;>split<;>omega];simp
 ·obtain ⟨j,rfl⟩:∃ j,n=j+1:=⟨n - 1,by omega⟩
  obtain ⟨e1,e2,e3,e4⟩:=nlen (lo:=lo) (j:=j) (span:=span) (by omega) hsp;rw [e1,<- e4] at q
  refine Xq (n:=j) (λi σ H'=>∃ o,σ=[some (.int lo),some (.int (lo+span)),some (.int (j+1:Nat)),some (.int (2^i)),o]/\H'=H) (λR r=>by walk_at "rd";rw [show ((j+1:Nat):Int) - 1=(j:Int) by omega];exact r) (by omega) ⟨_,rfl,rfl⟩ ?_ ?_
  ·rintro i σ H1 hi ⟨o,rfl,rfl⟩
   walk_at "rd";exact ⟨.inl (cm (m:=3) (n:=8) (by decide) (Nz i (by omega))),by rw [Int.pow_succ,Int.mul_comm]⟩
  ·rintro σ H1 ⟨o,rfl,rfl⟩
   walk_at "rd";refine Yds (lo:=2^j) (hi:=if (lo+span - lo+1:Int)<2*2^j then (lo+span - lo+1:Int) else 2*2^j) (f:=λr => .int (lo+2^j+(r:Int))) (λR r=>?_) (by split<;>omega) (by split<;>omega) ?_ ?_
   ·walk_at "rd"
    exact ⟨.inl (cm (m:=3) (n:=8) (by decide) (Nz j (by omega))),r⟩
   ·intro k H' hk sm R r
    walk_at "rd";rw [show (lo:Int)+(2^j+(k:Int))=lo+2^j+(k:Int) by omega];exact r _ (.refl _)
   ·exact λD H' hD s hl=>q D H' s hD hl
mutual
def Ab (bk:List Nat->Sh):Sh->Prop
 | .w lo span=>span<=6/\∀ f,f<=5->(en bk (.w lo span) f).length<=20000
 | .t sg=>∀ f,f<=5->(en bk (.t sg) f).length<=20000
 | .row ps=>(∀ f,f<=5->(en bk (.row ps) f).length<=20000)/\ps.length<=3/\eE bk ps
 | .pick mk ps=>(∀ f,f<=5->(en bk (.pick mk ps) f).length<=20000)/\ps.length<=3/\eE bk ps
 | .many p=>(∀ f,f<=5->(en bk (.many p) f).length<=20000)/\Ab bk p
 | .alike p k=>(∀ f,f<=5->(en bk (.alike p k) f).length<=20000)/\k<=3/\Ab bk p
 | .use x=>∀ f,f<=5->(en bk (.use x) f).length<=20000
def eE (bk:List Nat->Sh):List Sh->Prop
 | []=>True
 | p::ps=>Ab bk p/\eE bk ps/\∀ f,f<=5->(bR bk (p::ps) f).length<=20000
end
theorem Ab.lb {bk:List Nat->Sh} {sh:Sh} (h:Ab bk sh):∀ f,f<=5->(en bk sh f).length<=20000:=by
 cases sh<;>rw [Ab] at h
 ·exact h.2
 ·exact h
 ·exact h.1
 ·exact h.1
 ·exact h.1
 ·exact h.1
 ·exact h
theorem eE.lb {bk:List Nat->Sh} {ps:List Sh} (h:eE bk ps):∀ f,f<=5->(bR bk ps f).length<=20000:=by
 cases ps<;>rw [eE] at h
 ·intro f _
  rw [Wa]
  split<;>decide
 ·exact h.2.2
structure LB (K:Θ) (H:Hp) (B:Addr) (nm:List Nat) (lf:Sh):Prop where
 hB:∃ T a,au K H B [.ref T]/\aJ K H T [.str (S nm),.ref a]/\DK K H a (kd lf)
 ok:aH [(nm,lf)] lf
 ab:Ab (aF [(nm,lf)]) lf
 d0:dep lf=0
theorem LB.keep {K:Θ} {H H':Hp} {B:Addr} {nm:List Nat} {lf:Sh} (h:LB K H B nm lf) (s:Yk H H'):LB K H' B nm lf:=by
 obtain ⟨⟨T,a,h1,h2,h3⟩,h4,h5,h6⟩:=h;exact ⟨⟨T,a,s.seq h1,s.tup h2,h3.keep s⟩,h4,h5,h6⟩
def dz (H:Hp) (D:Addr) (ds:List Γ):Prop:=∃ vs,H D=some (.lst vs)/\aY H vs ds
theorem dz.keep {H H':Hp} {D:Addr} {ds:List Γ} (h:dz H D ds) (s:Yk H H'):dz H' D ds:=by
 obtain ⟨vs,h1,h2⟩:=h;exact ⟨vs,s _ _ h1,h2.keep s⟩
structure LA (K:Θ) (H:Hp) (B a:Addr) (nm:List Nat) (lf sh:Sh) (n m:Nat):Prop where
 lb:LB K H B nm lf
 hk:DK K H a (kd sh)
 ok:aH [(nm,lf)] sh
 ab:Ab (aF [(nm,lf)]) sh
 hn:n<=5
 dp:dep sh<=2
 lv:20*n+8*dep sh+1<=m
inductive cU (K:Θ) (m:Nat) (vs:List V) (H:Hp) (Q:VK) (E_:XK):Prop
 | mk (B a:Addr) (nm:List Nat) (lf sh:Sh) (n:Nat) (h0:vs=[.ref B,.ref a,.int n]) (h1:LA K H B a nm lf sh n m) (h2:∀ D H',Yk H H'->H D=none->dz H' D (en (aF [(nm,lf)]) sh n)->Q (.ref D) H')
structure LR (K:Θ) (H:Hp) (B T:Addr) (nm:List Nat) (lf:Sh) (ps:List Sh) (n m:Nat):Prop where
 lb:LB K H B nm lf
 hk:Den K H (.ref T) (.tuple (bQ ps))
 d8:(PyData.tuple (bQ ps)).depth<=8
 ok:Xf [(nm,lf)] ps
 ab:eE (aF [(nm,lf)]) ps
 hn:n<=5
 dp:YH ps<=1
 l3:ps.length<=3
 lv:20*n+8*YH ps+ps.length+2<=m
inductive qP (K:Θ) (m:Nat) (vs:List V) (H:Hp) (Q:VK) (E_:XK):Prop
 | mk (B T:Addr) (nm:List Nat) (lf:Sh) (ps:List Sh) (n:Nat) (h0:vs=[.ref B,.ref T,.int n]) (h1:LR K H B T nm lf ps n m) (h2:∀ D H',Yk H H'->H D=none->dz H' D ((bR (aF [(nm,lf)]) ps n).map .tuple)->Q (.ref D) H')
structure LM (K:Θ) (H:Hp) (B a:Addr) (nm:List Nat) (lf p:Sh) (n m:Nat):Prop where
 lb:LB K H B nm lf
 hk:DK K H a (kd p)
 ok:aH [(nm,lf)] p
 ab:Ab (aF [(nm,lf)]) p
 lm:∀ f,f<=5->(en (aF [(nm,lf)]) (.many p) f).length<=20000
 hn:n<=5
 dp:dep p<=1
 lv:20*n+8*dep p+2<=m
inductive qQ (K:Θ) (m:Nat) (vs:List V) (H:Hp) (Q:VK) (E_:XK):Prop
 | mk (B a:Addr) (nm:List Nat) (lf p:Sh) (n:Nat) (h0:vs=[.ref B,.ref a,.int n]) (h1:LM K H B a nm lf p n m) (h2:∀ D H',Yk H H'->H D=none->dz H' D (en (aF [(nm,lf)]) (.many p) n)->Q (.ref D) H')
theorem Q1 {K:Θ} {vs:List V} {H:Hp} {Q:VK} {E:XK} (h:cU K 0 vs H Q E):False:=by
 obtain ⟨_,_,_,_,_,n,_,h,_⟩:=h;have:=h.lv;omega
theorem NP {K:Θ} {vs:List V} {H:Hp} {Q:VK} {E:XK} (h:qP K 0 vs H Q E):False:=by
 obtain ⟨_,_,_,_,_,n,_,h,_⟩:=h;have:=h.lv;omega
theorem NQ {K:Θ} {vs:List V} {H:Hp} {Q:VK} {E:XK} (h:qQ K 0 vs H Q E):False:=by
 obtain ⟨_,_,_,_,_,n,_,h,_⟩:=h;have:=h.lv;omega
theorem WO {α:Type} (G:Nat->List α) (i:Nat):(ζ (i+1)).flatMap G=(ζ i).flatMap G++G i:=by
 rw [dn,List.flatMap_append,List.flatMap_singleton]
theorem NT {α:Type} (G:Nat->List α) {i k:Nat} (h:i<=k):((ζ i).flatMap G).length<=((ζ k).flatMap G).length:=by
 induction h with
 | refl=>exact Κ _
 | step _ ih=>rw [WO,Μ];omega
theorem Vf {H:Hp}:∀ {vs:List V} {ds:List Γ},vs.length=ds.length->(∀ (j:Nat) v d,vs[j]?=some v->ds[j]?=some d->DV H v d)->aY H vs ds
 | [],[],_,_ => .nil
 | v::vs,d::ds,hl,h => .cons (h 0 v d rfl rfl) (Vf (by simpa using hl) λj v' d' e1 e2=>h (j+1) v' d' e1 e2)
theorem UF {bk:List Nat->Sh}:∀ {ps:List Sh} {s:Nat} {es:List Γ},es∈bR bk ps s->es.length=ps.length
 | [],s,es,h=>by
  rw [Wa] at h
  split at h
  ·cases Φ.mp h
   rfl
  ·cases h
 | p::ps,s,es,h=>by
  rw [XX,be] at h
  obtain ⟨f,_,h⟩:=h;rw [bf,be] at h
  obtain ⟨d,_,h⟩:=h;obtain ⟨es',h',rfl⟩:=ac.mp h;rw [ω,ω,UF h']
def jW (mk:List V->HO) (H0:Hp) (R:List (List Γ)) (v:V) (d:Γ) (D:Addr) (j:Nat) (y:V) (H:Hp):Prop:=∃ (a:Addr) (vs:List V) (es:List Γ),y = .ref a/\a≠D/\H a=some (mk (v::vs))/\R[j]?=some es/\aY H0 (v::vs) (d::es)
theorem jW.same {mk:List V->HO} {H0:Hp} {R:List (List Γ)} {v:V} {d:Γ} {D:Addr} {j:Nat} {y:V} {H H':Hp} (h:jW mk H0 R v d D j y H) (s:Yk H H'):jW mk H0 R v d D j y H':=by
 obtain ⟨a,vs,es,rfl,h1,h2,h3,h4⟩:=h;exact ⟨a,vs,es,rfl,h1,s _ _ h2,h3,h4⟩
theorem jW.up {mk:List V->HO} {H0:Hp} {R:List (List Γ)} {v:V} {d:Γ} {D:Addr} {j:Nat} {y:V} {H:Hp} {zs':List V} (h:jW mk H0 R v d D j y H):jW mk H0 R v d D j y (upd H D (.lst zs')):=by
 obtain ⟨a,vs,es,rfl,h1,h2,h3,h4⟩:=h;exact ⟨a,vs,es,rfl,h1,by rw [Ye h1];exact h2,h3,h4⟩
theorem dz.app {H:Hp} {D:Addr} {xs zs:List V} {ds es:List Γ} (h:H D=none) (h1:aY H xs ds) (h2:aY H zs es):dz (upd H D (.lst (xs++zs))) D (ds++es):=⟨_,Yb,(h1.append h2).keep (.aj h _)⟩
theorem Sg (n:Nat):¬ HT.aN (n+1) 0 (some 1)=0:=by
 rw [show (some (1:Int))=some ((1:Nat):Int) from rfl,HT.gZ];omega
theorem Qw {g:TG} {tb:TS} {D:Ends} {σ:St} {H:Hp} {K:Θ} {tl:TE} (G:Addr->List V->Hp->Prop) (ha:∀ R:V->Hp->Prop,(∀ c xs H1,au K H1 c xs->G c xs H1->R (.ref c) H1)->tl σ H R)
  (hb:∀ c xs H1,au K H1 c xs->G c xs H1->∃ Pv:Nat->St->Hp->Prop,Pv 0 σ H1/\(∀ i σ H,i<=xs.length->Pv i σ H->au K H c xs)/\(∀ (i:Nat) x σ H,xs[i]?=some x->Pv i σ H->g x σ H λσ2 H2=>tb { D with nx:=Pv (i+1),ct:=Pv (i+1),bk:=D.nx } σ2 H2)/\∀ σ H,Pv xs.length σ H->D.nx σ H):UL (Wf K tl) g tb D σ H:=by
 refine ha _ λc xs H1 hS hG=>?_
 obtain ⟨Pv,h0,hl,hs,hd⟩:=hb c xs H1 hS hG;exact ⟨c,rfl,⟨xs,hS⟩,Ge Pv h0 hl hs hd⟩
theorem NZ {k:Nat}  (R:g.Raw "_law_rows" "_law_rows" zG ["_law_book","_law_parts","_law_size_here"]) (CG:g.Fn k "_law_rows" ["_law_book","_law_parts","_law_size_here"] (qP g.K m)) (gY:g.Fn k "_law_all" ["_law_book","_law_shape_here","_law_size_here"] (cU g.K m)) (iw:g.mg "int"=none) (Zg:g.mg "range"=none):g.Fn (k+1) "_law_rows" ["_law_book","_law_parts","_law_size_here"] (qP g.K (m+1)):=by
 refine R.fn nj (λvs H Q E h=>by obtain ⟨B,T,nm,lf,ps,n,rfl,L,q⟩:=h;rfl) λf_ cdv A outer s H vs Q E hr h=>?_
 obtain ⟨B,T,nm,lf,ps,n,rfl,L,q⟩:=h;refine ⟨_,(Yf (YF (Yq (yI hr.units) (pv 1) (Xb Yd) (Ys _)) (Yi (Yn (Yr YQ (Y0 (Ya (Y0 Yd) (Ya (Y0 (Ya (Xb Yd) Yd (Wq _ _ _ _ _))) Yd (US _ _ _ _)) (US _ _ _ _))) (Qh iw TQ (Ya (WX YL (pv 2) Yh (Ys _)) Yd))))) Yw) (Yf (Yp (i:=3) nj.nd rfl (.inl rfl) (Y0 Yd)) (Yf (Xt ar rfl (Y2 rfl Zg (Ya (Ym YZ (pv 2) Yh) Yd)) (Yu (i:=4) nj.nd rfl (.inl rfl)) (Yf (Yp (i:=5) nj.nd rfl (.inl rfl) (YA CG hr (Ya (pv 0) (Ya (GF Yhb (pv 1) (QB Yh) Ygm) (Ya (Ym Y3 (pv 2) (pv 4)) Yd))))) (Yi (Xt ar rfl (Xl (YA gY hr (Ya (pv 0) (Ya (Yr YD (pv 1) Yh) (Ya (pv 4) Yd))))) (Yu (i:=6) nj.nd rfl (.inr rfl)) (Yi (Yp (i:=3) nj.nd rfl (.inl rfl) (Ym V4 (pv 3) (Xn (src:=[none,some 6]) (N':=(["_law_rest","_law_thing"]:List Str)) (g:=Yv 0) (.own (.cap (i:=6) rfl rfl (by first | exact .inl rfl | exact .inr rfl) .nil)) rfl (Xl (pv 5)) (λcl C s₀ H₀ fp pn=>(Yu (i:=0) (show ay (["_law_rest","_law_thing"]:List Str) by decide +kernel) rfl (.inl rfl) (.inr rfl))) (λcl C s₀ H₀ fp pn=>Y5) (λcl C s₀ H₀ fp pn=>(Ym Yeo (Xb (Ya (pv 1) Yd)) (pv 0))))))))))) (Yi (Yn (pv 3)))))),?_⟩;walk_at "rd";refine ⟨few (by decide),λp hp=>⟨_,L.hk.keep (.aj hp _),.tuple [],.tup (aJ.of Yb) .nil,Τ L.d8 (by decide),?_⟩⟩;have sp:=Yk.aj hp (.tup [])
 cases ps with
 | nil =>
  refine Wg (by rw [bQ];rfl) ⟨few (by decide),λp1 h1=>⟨few (by decide),λp2 h2=>⟨few (by decide),λp3 h3=>⟨few (by decide),λp4 h4 => .inr ?_⟩⟩⟩⟩;have s1:=sp.trans (.aj h1 (.lst []));have s2:=s1.trans (.aj h2 (.tup []));have s3:=s2.trans (.aj h3 (.lst [.ref p2]));have s4:=s3.trans (.aj h4 (.lst [.ref p1,.ref p3]));by_cases c:n=0
  ·subst c
   refine ⟨_,au.of Yb,.ref p3,rfl,q p3 _ s4 (s2.free h3) ?_⟩;rw [Wa];refine ⟨[.ref p2],?_,.cons (.tup (vs:=[]) ?_ (by decide) .nil) .nil⟩
   ·exact (Yk.aj h4 _) _ _ Yb
   ·exact (Yk.aj h4 _) _ _ ((Yk.aj h3 _) _ _ Yb)
  ·rw [if_neg (by omega)]
   refine ⟨_,au.of Yb,.ref p1,rfl,q p1 _ s4 (sp.free h1) ?_⟩;rw [Wa,if_neg c];exact ⟨[],(Yk.aj h4 _) _ _ ((Yk.aj h3 _) _ _ ((Yk.aj h2 _) _ _ Yb)),.nil⟩
 | cons s ps =>
  refine Xd (by rw [bQ];intro z;cases z) ⟨few (by decide),λD hD=>?_⟩;obtain ⟨_,vs,e,hT,hvs⟩:=Xe L.hk
  cases V.ref.inj e
  rw [bQ] at hvs
  obtain ⟨v,r,rfl,hv,hr⟩:=YJ hvs;obtain ⟨a,rfl,hv⟩:=Uj hv;have d8:=L.d8;have hdp:=L.dp;have jX:=L.lv;have hl3:=L.l3;have hn:=L.hn;have ab:=L.ab;have hb:=ab.lb n hn;have ok:=L.ok;rw [eE] at ab
  rw [Xf] at ok
  rw [YH] at hdp jX
  rw [ω] at jX hl3
  rw [bQ,aa,θ] at d8
  rw [XX] at hb q
  generalize hG:(λf=>bf ck (en (aF [(nm,lf)]) s f) (bR (aF [(nm,lf)]) ps (n - f)))=G at hb q;have sD:=sp.trans (.aj hD (.lst []));refine Xq (n:=n+1) (λi σ H'=>∃ D o4 o5 o6,σ=[some (.ref B),some (.ref T),some (.int n),some (.ref D),o4,o5,o6]/\Yk H H'/\H D=none/\dz H' D (((ζ i).flatMap G).map .tuple)) (λR r=>by walk_at "rd";exact r) (by omega) ⟨D,_,_,_,rfl,sD,sp.free hD,[],Yb,.nil⟩ ?_ ?_
  ·rintro i σ H1 hi ⟨D,o4,o5,o6,rfl,s1,gD,hL⟩
   have hr1:=hr.keep s1;walk_at "rd";refine ⟨T,_,rfl,s1.tup hT,λz=>absurd z.1 (Sg _),λt ht=>?_⟩;rw [show (some (1:Int))=some ((1:Nat):Int) from rfl,Ygt];have sT:=Yk.aj ht (.tup r);have hdl:(YH ps)<=max (dep s) (YH ps):=Nat.le_max_right _ _;have ag4:(dep s)<=max (dep s) (YH ps):=Nat.le_max_left _ _;refine ⟨B,t,nm,lf,ps,n - i,by rw [show ((n - i:Nat):Int)=(n:Int) - (i:Int) by omega],⟨L.lb.keep (s1.trans sT),.tup (aJ.of Yb) (hr1.keep sT),?_,ok.2,ab.2.1,by omega,by omega,by omega,by omega⟩,λD5 H5 s5 g5 iM=>?_⟩
   ·rw [aa]
    omega
   obtain ⟨rs,h5,hrs⟩:=iM;have nQ:=sT.trans s5;refine Qw (K:=g.K) (λc xs H'=>Yk H5 H'/\H' c=some (.lst xs)/\aY H' xs (en (aF [(nm,lf)]) s i)) (λR r=>?_) ?_
   ·walk_at "rd"
    refine ⟨_,nQ.tup (s1.tup hT),_,Yo (j:=0) rfl,B,a,nm,lf,s,i,rfl,⟨L.lb.keep (s1.trans nQ),⟨hv.keep (s1.trans nQ),X5 s,by omega⟩,ok.1,ab.1,by omega,by omega,by omega⟩,λc H6 s6 _ qR=>?_⟩;obtain ⟨xs,hc,hxs⟩:=qR;exact r c xs H6 (au.of hc) ⟨s6,hc,hxs⟩
   ·rintro c xs H6 hS ⟨s6,hc,hxs⟩
    refine ⟨λj σ H'=>∃ D' o6,σ=[some (.ref B),some (.ref T),some (.int n),some (.ref D'),some (.int i),some (.ref D5),o6]/\Yk H6 H'/\H D'=none/\dz H' D' (((ζ i).flatMap G++bf ck ((en (aF [(nm,lf)]) s i).take j) (bR (aF [(nm,lf)]) ps (n - i))).map .tuple),⟨D,_,rfl,.refl _,gD,?_⟩,λj σ H' _ ⟨_,_,_,s,_⟩=>s.seq hS,?_,?_⟩
    ·rw [eS,bf,List.flatMap_nil,a8]
     exact hL.keep (nQ.trans s6)
    ·rintro j x σ H7 hx ⟨D',o6,rfl,s7,qT,hL'⟩
     obtain ⟨d,hd,hxd⟩:=hxs.at hx;obtain ⟨fs,hf,hfs⟩:=hL';walk_at "rd";have jx:=s6.trans s7;refine UT (K:=g.K) (xs:=rs) (jW HO.tup H7 (bR (aF [(nm,lf)]) ps (n - i)) x d) (λD j y H H' hR s=>hR.same s) (λD j y H zs zs' hR hp=>hR.up) (λR r=>by walk_at "rd";exact r) (au.of (jx _ _ h5)) ?_ ?_ ?_
     ·have:=ab.2.1.lb (n - i) (by omega)
      rw [hrs.length,Β];omega
     ·intro E k y H' zs hy sm hE R r
      obtain ⟨e,he,CJ⟩:=hrs.at hy;rw [Λ] at he
      obtain ⟨es,he',rfl⟩:=ε.mp he;have hel:=UF (Ξ he');obtain ⟨b,ws,rfl,hb2,hwl,hws⟩:=CJ.oN;have ud:=hws.length;walk_at "rd";have vR:aY H7 (x::ws) (d::es) := .cons (hxd.keep s7) (hws.keep jx);have hbH:=sm _ _ (jx _ _ hb2);refine ⟨few (by decide),λp2 hp2=>?_⟩;have jY:=Yk.aj hp2 (.tup [x]);refine ⟨p2,b,[x],ws,rfl,rfl,aJ.of Yb,aJ.of (jY _ _ hbH),few (by rw [aE];omega),λz=>(by cases z),λ_ z=>?_,λ_ _ p3 hp3=>?_⟩
      ·subst z
       exact r _ _ jY ⟨p2,[],es,rfl,(Yl hE hp2).symm,Yb,he',vR⟩
      ·exact r _ _ (jY.trans (.aj hp3 _)) ⟨p3,ws,es,rfl,(Yl (jY _ _ hE) hp3).symm,Yb,he',vR⟩
     ·intro E ys H' hE sm hd' hyl hys
      refine ⟨E,rfl,fs,sm _ _ hf,ys,hd',few ?_,λP hP=>⟨s7.trans (sm.trans (.aj hP _)),(s1.trans nQ).free (jx.free (sm.free hP)),?_⟩⟩
      ·have:=NT G (show i+1<=n+1 by omega)
       have p1:=Cz (ck (α:=Γ)) (en (aF [(nm,lf)]) s i) (bR (aF [(nm,lf)]) ps (n - i)) (j+1);have e1:=hfs.length;have e2:=hrs.length;have e3:(G i).length=(bf ck (en (aF [(nm,lf)]) s i) (bR (aF [(nm,lf)]) ps (n - i))).length:=by rw [<- hG]
       rw [WO,Μ] at this
       rw [WD _ hd,Μ,Β] at p1
       rw [Β,Μ] at e1
       rw [Β] at e2
       omega
      ·rw [WD _ hd,<- cE,bc]
       refine dz.app hP (hfs.keep sm) (Vf ?_ λk y z hy hz=>?_)
       ·rw [hyl,hrs.length,Β,Β,Β]
       ·obtain ⟨a1,vs1,es1,rfl,_,ha1,qU,hv1⟩:=hys k y hy
        rw [Λ,Λ,qU] at hz
        cases Δ hz
        exact .tup ha1 (by have:=hv1.length;rw [this,ω,UF (Ξ qU)];omega) (hv1.keep sm)
    ·rintro σ H7 ⟨D',o6,rfl,s7,qT,hL'⟩
     rw [hxs.length,bz,show bf ck (en (aF [(nm,lf)]) s i) (bR (aF [(nm,lf)]) ps (n - i))=G i by rw [<- hG],<- WO] at hL'
     exact ⟨D',_,_,_,rfl,(s1.trans nQ).trans (s6.trans s7),qT,hL'⟩
  ·rintro σ H1 ⟨D,o4,o5,o6,rfl,s1,gD,hL⟩
   walk_at "rd";exact q D H1 s1 gD hL
theorem Q2 {G:Nat->List Γ}:∀ {n:Nat} {es:List Γ},es∈cC G n->es.length<=n:=by
 intro n
 induction n using Nat.strongRecOn with
 | ind n ih =>
  intro es h
  cases n with
  | zero =>
   rw [cC] at h
   cases Φ.mp h
   exact Κ _
  | succ n =>
   rw [XC,be] at h
   obtain ⟨f,hf,h⟩:=h;rw [bf,be] at h
   obtain ⟨d,_,h⟩:=h;obtain ⟨es',h',rfl⟩:=ac.mp h;have:=ih (n - f) (by omega) h';rw [ω];omega
theorem N5 {k:Nat}  (R:g.Raw "_law_lists" "_law_lists" zH ["_law_book","_law_part","_law_size_here"]) (CK:g.Fn k "_law_lists" ["_law_book","_law_part","_law_size_here"] (qQ g.K m)) (gY:g.Fn k "_law_all" ["_law_book","_law_shape_here","_law_size_here"] (cU g.K m)) (Zg:g.mg "range"=none):g.Fn (k+1) "_law_lists" ["_law_book","_law_part","_law_size_here"] (qQ g.K (m+1)):=by
 refine R.fn nq (λvs H Q E h=>by obtain ⟨B,a,nm,lf,p,n,rfl,L,q⟩:=h;rfl) λf_ cdv A outer s H vs Q E hr h=>?_
 obtain ⟨B,a,nm,lf,p,n,rfl,L,q⟩:=h;refine ⟨_,(Yf (YF (Yq YL (pv 2) Yh (Ys _)) (Yi (Yn (Y0 (Ya (Y0 Yd) Yd (US _ _ _ _))))) Yw) (Yf (Yp (i:=3) nq.nd rfl (.inl rfl) (Y0 Yd)) (Yf (Xt ar rfl (Y2 rfl Zg (Ya (pv 2) Yd)) (Yu (i:=4) nq.nd rfl (.inl rfl)) (Yf (Yp (i:=5) nq.nd rfl (.inl rfl) (YA CK hr (Ya (pv 0) (Ya (pv 1) (Ya (Ym Y3 (Ym Y3 (pv 2) Yh) (pv 4)) Yd))))) (Yi (Xt ar rfl (Xl (YA gY hr (Ya (pv 0) (Ya (pv 1) (Ya (pv 4) Yd))))) (Yu (i:=6) nq.nd rfl (.inr rfl)) (Yi (Yp (i:=3) nq.nd rfl (.inl rfl) (Ym V4 (pv 3) (Xn (src:=[none,some 6]) (N':=(["_law_rest","_law_thing"]:List Str)) (g:=Yv 0) (.own (.cap (i:=6) rfl rfl (by first | exact .inl rfl | exact .inr rfl) .nil)) rfl (Xl (pv 5)) (λcl C s₀ H₀ fp pn=>(Yu (i:=0) (show ay (["_law_rest","_law_thing"]:List Str) by decide +kernel) rfl (.inl rfl) (.inr rfl))) (λcl C s₀ H₀ fp pn=>Y5) (λcl C s₀ H₀ fp pn=>(Ym V4 (Y0 (Ya (pv 1) Yd)) (pv 0))))))))))) (Yi (Yn (pv 3)))))),?_⟩;walk_at "rd";refine Xy (λc=>?_) (λc=>?_)
 ·have e:n=0:=by omega
  subst e;refine ⟨few (by decide),λp1 h1=>⟨few (by decide),λp2 h2=>?_⟩⟩;have s1:=Yk.aj h1 (.lst []);have s2:=Yk.aj h2 (.lst [.ref p1]);refine q p2 _ (s1.trans s2) (s1.free h2) ?_;rw [Xs,VR];exact ⟨_,Yb,.cons (.lst (vs:=[]) (s2 _ _ Yb) (by decide) .nil) .nil⟩
 ·obtain ⟨k,rfl⟩:∃ k,n=k+1:=⟨n - 1,by omega⟩
  have hn:=L.hn;have jX:=L.lv;have hdp:=L.dp;have hb:=L.lm (k+1) hn;rw [Xs,Β,XC] at hb
  rw [Xs,XC] at q
  generalize hG:(λf=>bf ck (en (aF [(nm,lf)]) p f) (cC (en (aF [(nm,lf)]) p) (k - f)))=G at hb q;refine ⟨few (by decide),λD hD=>?_⟩;have sD:=Yk.aj hD (.lst []);refine Xq (n:=k+1) (λi σ H'=>∃ D o4 o5 o6,σ=[some (.ref B),some (.ref a),some (.int (k+1:Nat)),some (.ref D),o4,o5,o6]/\Yk H H'/\H D=none/\dz H' D (((ζ i).flatMap G).map .list)) (λR r=>by walk_at "rd";exact r) (by omega) ⟨D,_,_,_,rfl,sD,hD,[],Yb,.nil⟩ ?_ ?_
  ·rintro i σ H1 hi ⟨D,o4,o5,o6,rfl,s1,gD,hL⟩
   have hbm:=L.lm (k - i) (by omega);rw [Xs,Β] at hbm
   walk_at "rd";refine ⟨B,a,nm,lf,p,k - i,by rw [show ((k - i:Nat):Int)=((k+1:Nat):Int) - 1 - (i:Int) by omega],⟨L.lb.keep s1,L.hk.keep s1,L.ok,L.ab,L.lm,by omega,by omega,by omega⟩,λD5 H5 s5 g5 iM=>?_⟩;rw [Xs] at iM
   obtain ⟨rs,h5,hrs⟩:=iM;refine Qw (K:=g.K) (λc xs H'=>Yk H5 H'/\H' c=some (.lst xs)/\aY H' xs (en (aF [(nm,lf)]) p i)) (λR r=>?_) ?_
   ·walk_at "rd"
    refine ⟨B,a,nm,lf,p,i,rfl,⟨L.lb.keep (s1.trans s5),L.hk.keep (s1.trans s5),L.ok,L.ab,by omega,by omega,by omega⟩,λc H6 s6 _ qR=>?_⟩;obtain ⟨xs,hc,hxs⟩:=qR;exact r c xs H6 (au.of hc) ⟨s6,hc,hxs⟩
   ·rintro c xs H6 hS ⟨s6,hc,hxs⟩
    refine ⟨λj σ H'=>∃ D' o6,σ=[some (.ref B),some (.ref a),some (.int (k+1:Nat)),some (.ref D'),some (.int i),some (.ref D5),o6]/\Yk H6 H'/\H D'=none/\dz H' D' (((ζ i).flatMap G++bf ck ((en (aF [(nm,lf)]) p i).take j) (cC (en (aF [(nm,lf)]) p) (k - i))).map .list),⟨D,_,rfl,.refl _,gD,?_⟩,λj σ H' _ ⟨_,_,_,s,_⟩=>s.seq hS,?_,?_⟩
    ·rw [eS,bf,List.flatMap_nil,a8]
     exact hL.keep (s5.trans s6)
    ·rintro j x σ H7 hx ⟨D',o6,rfl,s7,qT,hL'⟩
     obtain ⟨d,hd,hxd⟩:=hxs.at hx;obtain ⟨fs,hf,hfs⟩:=hL';have jx:=s6.trans s7;walk_at "rd";refine UT (K:=g.K) (xs:=rs) (jW HO.lst H7 (cC (en (aF [(nm,lf)]) p) (k - i)) x d) (λD j y H H' hR s=>hR.same s) (λD j y H zs zs' hR hp=>hR.up) (λR r=>by walk_at "rd";exact r) (au.of (jx _ _ h5)) ?_ ?_ ?_
     ·rw [hrs.length,Β]
      omega
     ·intro E t y H' zs hy sm hE R r
      obtain ⟨e,he,CJ⟩:=hrs.at hy;rw [Λ] at he
      obtain ⟨es,he',rfl⟩:=ε.mp he;have hel:=Q2 (Ξ he');obtain ⟨b,ws,rfl,hb2,hwl,hws⟩:=CJ.lB;have ud:=hws.length;walk_at "rd";have vR:aY H7 (x::ws) (d::es) := .cons (hxd.keep s7) (hws.keep jx);have hbH:=sm _ _ (jx _ _ hb2);refine ⟨few (by decide),λp2 hp2=>?_⟩;have jY:=Yk.aj hp2 (.lst [x]);exact ⟨_,Yb,ws,jY _ _ hbH,few (by rw [aE];omega),λp3 hp3=>r _ _ (jY.trans (.aj hp3 _)) ⟨p3,ws,es,rfl,(Yl (jY _ _ hE) hp3).symm,Yb,he',vR⟩⟩
     ·intro E ys H' hE sm hd' hyl hys
      refine ⟨E,rfl,fs,sm _ _ hf,ys,hd',few ?_,λP hP=>⟨s7.trans (sm.trans (.aj hP _)),(s1.trans s5).free (jx.free (sm.free hP)),?_⟩⟩
      ·have:=NT G (show i+1<=k+1 by omega)
       have p1:=Cz (ck (α:=Γ)) (en (aF [(nm,lf)]) p i) (cC (en (aF [(nm,lf)]) p) (k - i)) (j+1);have e1:=hfs.length;have e2:=hrs.length;have e3:(G i).length=(bf ck (en (aF [(nm,lf)]) p i) (cC (en (aF [(nm,lf)]) p) (k - i))).length:=by rw [<- hG]
       rw [WO,Μ] at this
       rw [WD _ hd,Μ,Β] at p1
       rw [Β,Μ] at e1
       rw [Β] at e2
       omega
      ·rw [WD _ hd,<- cE,bc]
       refine dz.app hP (hfs.keep sm) (Vf ?_ λt y z hy hz=>?_)
       ·rw [hyl,hrs.length,Β,Β,Β]
       ·obtain ⟨a1,vs1,es1,rfl,_,ha1,qU,hv1⟩:=hys t y hy
        rw [Λ,Λ,qU] at hz
        cases Δ hz
        have hel:=Q2 (Ξ qU);exact .lst ha1 (by have:=hv1.length;rw [this,ω];omega) (hv1.keep sm)
    ·rintro σ H7 ⟨D',o6,rfl,s7,qT,hL'⟩
     rw [hxs.length,bz,show bf ck (en (aF [(nm,lf)]) p i) (cC (en (aF [(nm,lf)]) p) (k - i))=G i by rw [<- hG],<- WO] at hL'
     exact ⟨D',_,_,_,rfl,(s1.trans s5).trans (s6.trans s7),qT,hL'⟩
  ·rintro σ H1 ⟨D,o4,o5,o6,rfl,s1,gD,hL⟩
   walk_at "rd";exact q D H1 s1 gD hL
theorem Xk {K:Θ} {H:Hp} {a:Addr} {x y:Str} {vs:List V} {A B:Prop} (hT:aJ K H a (.str x::vs)) (hne:x≠y) (h:B):jM (aJ K H a) 0 λv=>Qz v (.str y)=true/\if v = .str y then A else B:=⟨_,hT,_,Yo (j:=0) rfl,YC _ _,Xd (λz=>hne (V.str.inj z)) h⟩
theorem UG {K:Θ} {H:Hp} {a:Addr} {x:Str} {vs:List V} {A B:Prop} (hT:aJ K H a (.str x::vs)) (h:A):jM (aJ K H a) 0 λv=>Qz v (.str x)=true/\if v = .str x then A else B:=⟨_,hT,_,Yo (j:=0) rfl,YC _ _,Wg rfl h⟩
theorem N6 {sg:List Nat} {x:List Nat}:∀ {s:Nat},x∈cj sg s->∀ c∈x,c∈sg
 | 0,h,c,hc=>by
  cases Φ.mp h
  cases hc
 | s+1,h,c,hc=>by
  rw [cj,bf,be] at h
  obtain ⟨y,hy,h⟩:=h;obtain ⟨e,he,rfl⟩:=ac.mp h;rcases a6.mp hc with hc | hc
  ·exact N6 hy c hc
  ·cases Φ.mp hc
   exact he
theorem N7 {α:Type} {H:Hp} {D:Addr} {l:List α} {f:α->V} {g:α->Γ} (h:H D=some (.lst (l.map f))) (hv:∀ x∈l,DV H (f x) (g x)):dz H D (l.map g):=by
 refine ⟨_,h,Vf (by rw [Β,Β]) λj v d e1 e2=>?_⟩;rw [Λ] at e1 e2
 obtain ⟨x,hx,rfl⟩:=ε.mp e1;rw [hx] at e2
 cases Δ e2
 exact hv x (Ξ hx)
theorem N8 {bk:List Nat->Sh} {p:Sh}:∀ {ps:List Sh},eE bk ps->p∈ps->Ab bk p
 | q::ps,h,hm=>by
  rw [eE] at h
  rcases Ν.mp hm with rfl | hm
  ·exact h.1
  ·exact N8 h.2.1 hm
theorem Q3 {bk:List Nat->Sh} {s:Nat}:∀ {mk:List (List Nat)} {ps:List Sh} (i:Nat),mk.length=ps.length->cA bk mk ps s=cA bk (mk.take i) (ps.take i) s++cA bk (mk.drop i) (ps.drop i) s
 | mk,ps,0,_=>by
  rw [eS,eS,List.drop_zero,List.drop_zero,show cA bk [] [] s=[] by rw [cA,cM]];rfl
 | [],[],i+1,_=>by
  rw [List.take_nil,List.take_nil,List.drop_nil,List.drop_nil,show cA bk [] [] s=[] by rw [cA,cM]];rfl
 | m::mk,p::ps,i+1,h=>by
  rw [XR,gy,gy,XR,List.drop_succ_cons,List.drop_succ_cons,cE];exact congrArg _ (Q3 (mk:=mk) i (by simpa using h))
theorem Oa {bk:List Nat->Sh} {s:Nat} {mk:List (List Nat)} {ps:List Sh} {i:Nat} {m:List Nat} {p:Sh} (h:mk.length=ps.length) (hm:mk[i]?=some m) (hp:ps[i]?=some p):cA bk (mk.take (i+1)) (ps.take (i+1)) s=cA bk (mk.take i) (ps.take i) s++(en bk p s).map λd => .tuple [.str (S m),d]:=by
 have hl:=(Η.mp hm).1;rw [Q3 i (by rw [aw,aw,h]),List.take_take,List.take_take,iP (d5 i),YT hm,YT hp,List.drop_append_of_le_length (by rw [aw];omega),List.drop_append_of_le_length (by rw [aw];omega),bS (by rw [aw];omega),bS (by rw [aw];omega),iS,iS,XR,show cA bk ([m]:List (List Nat)).tail [] s=[] by rw [cA,cM],a8];rfl
def RpP (k:Nat) (xs:List V) (D:Addr) (j:Nat) (y:V) (H:Hp):Prop:=∃ (a:Addr) (v:V),y = .ref a/\a≠D/\H a=some (.lst (eW k v))/\xs[j]?=some v
def MkP (m:Str) (xs:List V) (j:Nat) (y:V) (H:Hp):Prop:=∃ (a:Addr) (v:V),y = .ref a/\H a=some (.tup [.str m,v])/\xs[j]?=some v
theorem Ob {k:Nat}  (R:g.Raw "_law_all" "_law_all" zJ ["_law_book","_law_shape_here","_law_size_here"]) (mK:g.Fn k "_law_texts" ["_law_signs","_law_size_here"] (lQ)) (j8:g.Fn k "_law_numbers" ["_law_low","_law_high","_law_size_here"] (NK)) (CG:g.Fn k "_law_rows" ["_law_book","_law_parts","_law_size_here"] (qP g.K m)) (CK:g.Fn k "_law_lists" ["_law_book","_law_part","_law_size_here"] (qQ g.K m)) (gY:g.Fn k "_law_all" ["_law_book","_law_shape_here","_law_size_here"] (cU g.K m)) (bZ:g.mg "dict"=none) (Zg:g.mg "range"=none):g.Fn (k+1) "_law_all" ["_law_book","_law_shape_here","_law_size_here"] (cU g.K (m+1)):=by
 refine R.fn nA (λvs H Q E h=>by obtain ⟨B,a,nm,lf,sh,n,rfl,L,q⟩:=h;rfl) λf_ cdv A outer s H vs Q E hr h=>?_
 obtain ⟨B,a,nm,lf,sh,n,rfl,L,q⟩:=h;have hu:=G4 hr;refine ⟨_,(Yf (YF (Yq YL (Yr YD (pv 1) Yh) YO (Ys _)) (Yi (Yn (YA j8 hr (Ya (Yr YD (pv 1) Yh) (Ya (Yr YD (pv 1) Yh) (Ya (pv 2) Yd)))))) Yw) (Yf (YF (Yq YL (Yr YD (pv 1) Yh) YO (Ys _)) (Yi (Yn (YA mK hr (Ya (Yr YD (pv 1) Yh) (Ya (pv 2) Yd))))) Yw) (Yf (YF (Yq YL (Yr YD (pv 1) Yh) YO (Ys _)) (Yi (Yn (YA CG hr (Ya (pv 0) (Ya (Yr YD (pv 1) Yh) (Ya (pv 2) Yd)))))) Yw) (Yf (YF (Yq YL (Yr YD (pv 1) Yh) YO (Ys _)) (Yi (Yn (YA CK hr (Ya (pv 0) (Ya (Yr YD (pv 1) Yh) (Ya (pv 2) Yd)))))) Yw) (Yf (YF (Yq YL (Yr YD (pv 1) Yh) YO (Ys _)) (Yf (YF (Yq YL (pv 2) Yh (Ys _)) (Yi (Yn (Y0 Yd))) Yw) (Yi (Yn (YA gY hr (Ya (pv 0) (Ya (Ygq (G4 hr) (Qh bZ QO (Ya (pv 0) Yd)) (Yr YD (pv 1) Yh) (λ_ _=>rfl)) (Ya (Ym Y3 (pv 2) Yh) Yd))))))) Yw) (Yf (YF (Yq YL (Yr YD (pv 1) Yh) YO (Ys _)) (Yf (YF (uG (Yq U8 (pv 2) (Yr YD (pv 1) Yh) (Ys _)) (U4 (Yq xO (Ym Xg (pv 2) (Yr YD (pv 1) Yh)) Yh (Ys _)))).pt (Yi (Yn (Y0 Yd))) Yw) (Yf (Yp (i:=3) nA.nd rfl (.inl rfl) (YA gY hr (Ya (pv 0) (Ya (Yr YD (pv 1) Yh) (Ya (Ym Y3 (Ym YX (pv 2) (Yr YD (pv 1) Yh)) Yh) Yd))))) (Yi (Yn (Yhs (yc:=("_law_thing":Str)) (src:=[none,some 1]) (N':=(["_law_thing","_law_shape_here"]:List Str)) (g:=Yv 0) (.own (.cap (i:=1) rfl rfl (by first | exact .inl rfl | exact .inr rfl) .nil)) rfl (Xl (pv 3)) (λcl C s₀ H₀ fp pn=>(Yu (i:=0) (show ay (["_law_thing","_law_shape_here"]:List Str) by decide +kernel) rfl (.inr rfl) (.inl rfl))) (λcl C s₀ H₀ fp pn=>Y5) (λcl C s₀ H₀ fp pn=>(Xn (src:=[none,some 0]) (N':=(["_law_k","_law_thing"]:List Str)) (g:=Yv 0) (.own (.cap (i:=0) rfl rfl (by first | exact .inl rfl | exact .inr rfl) .nil)) rfl (Y2 rfl Zg (Ya (Yr (QH (K:=g.K)) (pv 1) Yh) Yd)) (λcl C s₀ H₀ fp pn=>(Yu (i:=0) (show ay (["_law_k","_law_thing"]:List Str) by decide +kernel) rfl (.inl rfl) (.inr rfl))) (λcl C s₀ H₀ fp pn=>Y5) (λcl C s₀ H₀ fp pn=>(pv 1)) (by intro x hx;simp at hx;first | (subst hx;(first | exact .inl rfl | exact .inr rfl)) | (rcases hx with rfl | rfl<;>(first | exact .inl rfl | exact .inr rfl)) | (rcases hx with rfl | rfl | rfl<;>(first | exact .inl rfl | exact .inr rfl)) | (rcases hx with rfl | rfl | rfl | rfl<;>(first | exact .inl rfl | exact .inr rfl)) | (rcases hx with rfl | rfl | rfl | rfl | rfl<;>(first | exact .inl rfl | exact .inr rfl))))) (by intro x hx;simp at hx;first | (subst hx;(first | exact .inl rfl | exact .inr rfl)) | (rcases hx with rfl | rfl<;>(first | exact .inl rfl | exact .inr rfl)) | (rcases hx with rfl | rfl | rfl<;>(first | exact .inl rfl | exact .inr rfl)) | (rcases hx with rfl | rfl | rfl | rfl<;>(first | exact .inl rfl | exact .inr rfl)) | (rcases hx with rfl | rfl | rfl | rfl | rfl<;>(first | exact .inl rfl | exact .inr rfl))) (by rfl) (by intro _ _;rfl) (by rfl) (by decide +kernel) (by decide +kernel) (by intro _;rfl)))))) Yw) (Yf (Yp (i:=4) nA.nd rfl (.inl rfl) (Y0 Yd)) (Yf (Xt ar rfl (U7 (Yr YD (pv 1) Yh)) (V0 (n:=2) rfl (XB (Yu (i:=5) nA.nd rfl (.inr rfl)) (XB (Yu (i:=6) nA.nd rfl (.inl rfl)) Vq))) (Yi (Yp (i:=4) nA.nd rfl (.inl rfl) (Ym V4 (pv 4) (Xn (src:=[none,some 5]) (N':=(["_law_thing","_law_mark"]:List Str)) (g:=Yv 0) (.own (.cap (i:=5) rfl rfl (by first | exact .inl rfl | exact .inr rfl) .nil)) rfl (Xl (YA gY hr (Ya (pv 0) (Ya (pv 6) (Ya (pv 2) Yd))))) (λcl C s₀ H₀ fp pn=>(Yu (i:=0) (show ay (["_law_thing","_law_mark"]:List Str) by decide +kernel) rfl (.inl rfl) (.inr rfl))) (λcl C s₀ H₀ fp pn=>Y5) (λcl C s₀ H₀ fp pn=>(Xb (Ya (pv 1) (Ya (pv 0) Yd))))))))) (Yi (Yn (pv 4))))))))))),?_⟩;have hk:=L.hk.den;have d8:=L.hk.dp;have ok:=L.ok;have ab:=L.ab;have hn:=L.hn;have hdp:=L.dp;have jX:=L.lv;walk_at "rd"
 cases sh with
 | w lo span =>
  rw [kd] at hk
  rw [Ab] at ab
  obtain ⟨b,vs,e,hT,hvs⟩:=Xe hk
  cases V.ref.inj e
  obtain ⟨u1,r1,rfl,h5,h6⟩:=YJ hvs;obtain ⟨u2,r2,rfl,h7,h8⟩:=YJ h6;obtain ⟨u3,r3,rfl,h9,h10⟩:=YJ h8
  cases XZ h10
  cases XI h5
  cases W0 h7
  cases W0 h9
  refine UG hT ⟨_,hT,_,Yo (j:=1) rfl,_,hT,_,Yo (j:=2) rfl,lo,span,n,rfl,ab.1,hn,λD H' s hD h=>q D H' s hD ?_⟩;rw [qx];exact N7 h λr _=>⟨_,.int _⟩
 | t sg =>
  rw [kd] at hk
  rw [Ab] at ab
  rw [aH] at ok
  obtain ⟨v,hT,hv⟩:=Wn hk
  cases XI hv
  refine Xk hT (by decide +kernel) (UG hT ⟨_,hT,_,Yo (j:=1) rfl,sg,n,rfl,ok.2.1,hn,λi hi=>?_,λD H' s hD h=>q D H' s hD ?_⟩)
  ·have:=ab i (by omega)
   rw [VT,Β] at this
   exact this
  ·rw [VT]
   exact N7 h λx hx=>⟨_,.str _ (Vz λc hc=>ok.2.2 c (N6 hx c hc))⟩
 | row ps =>
  rw [kd] at hk d8
  rw [Ab] at ab
  rw [aH] at ok
  rw [dep] at hdp jX
  obtain ⟨v,hT,hv⟩:=Wn hk;obtain ⟨b,vs,rfl,hb,hvs⟩:=Xe hv;refine Xk hT (by decide +kernel) (Xk hT (by decide +kernel) (UG hT ⟨_,hT,_,Yo (j:=1) rfl,B,b,nm,lf,ps,n,rfl,⟨L.lb,.tup hb hvs,?_,ok.2,ab.2.2,hn,by omega,ab.2.1,by omega⟩,λD H' s hD h=>q D H' s hD ?_⟩))
  ·simp only [aa,θ] at d8 ⊢
   omega
  ·rw [Vb]
   exact h
 | many p =>
  rw [kd] at hk
  have d8':=VY (sh := .many p) L.ok (.head _);rw [Ab] at ab
  rw [aH] at ok
  rw [dep] at hdp jX
  obtain ⟨v,hT,hv⟩:=Wn hk;obtain ⟨b,rfl,hv⟩:=Uj hv;exact Xk hT (by decide +kernel) (Xk hT (by decide +kernel) (Xk hT (by decide +kernel) (UG hT ⟨_,hT,_,Yo (j:=1) rfl,B,b,nm,lf,p,n,rfl,⟨L.lb,⟨hv,X5 p,by omega⟩,ok,ab.2,ab.1,hn,by omega,by omega⟩,λD H' s hD h=>q D H' s hD h⟩)))
 | use x =>
  rw [kd] at hk
  rw [aH] at ok
  obtain ⟨v,hT,hv⟩:=Wn hk
  cases XI hv
  have hx:x=nm:=by
   obtain ⟨q0,hq0⟩:=ok;rw [a7] at hq0
   split at hq0
   ·rename_i z
    exact (of_decide_eq_true z).symm
   ·cases hq0
  subst hx;refine Xk hT (by decide +kernel) (Xk hT (by decide +kernel) (Xk hT (by decide +kernel) (Xk hT (by decide +kernel) (UG hT (Xy (λc=>?_) (λc=>?_))))))
  ·have e:n=0:=by omega
   subst e;refine ⟨few (by decide),λD hD=>q D _ (.aj hD _) hD ?_⟩;rw [Uz];exact ⟨[],Yb,.nil⟩
  ·obtain ⟨k,rfl⟩:∃ k,n=k+1:=⟨n - 1,by omega⟩
   have lb:=L.lb;obtain ⟨T,b,h1,h2,h3⟩:=L.lb.hB;rw [Ue,show aF [(x,lf)] x=lf by unfold aF;rw [a7,decide_eq_true rfl];rfl] at q
   refine ⟨T,h1,_,_,h2,λd hd=>?_⟩;have sd:=Yk.aj hd (.dK [(f8 (S x),V.ref b)]);have h0:=L.lb.d0;refine ⟨_,sd.tup hT,_,Yo (j:=1) rfl,.ref b,?_,B,b,x,lf,lf,k,by rw [show ((k+1:Nat):Int) - 1=(k:Int) by omega],⟨L.lb.keep sd,h3.keep sd,L.lb.ok,L.lb.ab,by omega,by omega,by omega⟩,λD H' s hD h=>q D H' (sd.trans s) (sd.free hD) h⟩;have:=V5.k (H:=upd H d (.dK [(f8 (S x),V.ref b)])) (k:=f8 (S x)) Yb
   rwa [show WP [((f8 (S x):Key),V.ref b)] (f8 (S x))=some (.ref b) by simp [WP]] at this
 | alike p k =>
  have d8':=VY (sh := .alike p k) L.ok (.head _);rw [kd] at hk
  rw [Ab] at ab
  rw [aH] at ok
  rw [dep] at hdp jX
  rw [Vc] at q
  obtain ⟨b,vs,e,hT,hvs⟩:=Xe hk
  cases V.ref.inj e
  obtain ⟨u1,r1,rfl,h5,h6⟩:=YJ hvs;obtain ⟨u2,r2,rfl,h7,h8⟩:=YJ h6;obtain ⟨u3,r3,rfl,h9,h10⟩:=YJ h8
  cases XZ h10
  cases XI h5
  obtain ⟨b,rfl,hv⟩:=Uj h7
  cases W0 h9
  refine Xk hT (by decide +kernel) (Xk hT (by decide +kernel) (Xk hT (by decide +kernel) (Xk hT (by decide +kernel) (Xk hT (by decide +kernel) (UG hT ⟨_,hT,_,Yo (j:=2) rfl,_,rfl,Xy (λc=>?_) (λc=>⟨_,hT,_,Yo (j:=2) rfl,_,rfl,by omega,Xy (λc1=>?_) (λc1=>⟨_,hT,_,Yo (j:=1) rfl,_,hT,_,Yo (j:=2) rfl,_,rfl,?_⟩)⟩)⟩)))))
  ·refine ⟨few (by decide),λD hD=>q D _ (.aj hD _) hD ?_⟩
   rw [if_pos (.inl (by omega))];exact ⟨[],Yb,.nil⟩
  ·refine ⟨few (by decide),λD hD=>q D _ (.aj hD _) hD ?_⟩
   rw [if_pos (.inr (by omega))];exact ⟨[],Yb,.nil⟩
  ·rw [if_neg (by omega)] at q
   have hk1:1<=n / k:=(Nat.le_div_iff_mul_le (by omega)).mpr (by omega);have hk2:=dm n k;refine ⟨YS (by omega) (by omega),B,b,nm,lf,p,n / k - 1,by rw [show ((n / k - 1:Nat):Int)=(n:Int) / (k:Int) - 1 by rw [<- Int.natCast_ediv];omega],⟨L.lb,⟨hv,X5 p,by omega⟩,ok.1,ab.2.2,by omega,by omega,by omega⟩,λD5 H5 s5 g5 iM=>?_⟩;obtain ⟨xs,hd,hxs⟩:=iM;refine UT (K:=g.K) (xs:=xs) (RpP k xs) (λD j y H H' ⟨a,v,e,h1,h2,h3⟩ s=>⟨a,v,e,h1,s _ _ h2,h3⟩) (λD j y H zs zs' ⟨a,v,e,h1,h2,h3⟩ hp=>⟨a,v,e,h1,by rw [Ye h1];exact h2,h3⟩) (λR r=>by walk_at "rd";exact r) (au.of hd) ?_ ?_ ?_
   ·have:=ab.2.2.lb (n / k - 1) (by omega)
    rw [hxs.length];omega
   ·intro E i x H' zs hx sm hE R r
    refine Yc8 (n:=k) (eW k x) (λR r=>?_) (by simp) (by omega) ?_ ?_
    ·walk_at "rd"
     exact ⟨_,sm.tup (s5.tup hT),_,Yo (j:=2) rfl,r⟩
    ·intro j y H2 hj hy s2 R r
     rw [fk,if_pos hj] at hy
     cases Δ hy
     walk_at "rd";exact r _ (.refl _)
    ·intro D2 H2 hD2 s2 h2
     exact r _ _ s2 ⟨D2,x,rfl,(Yl hE hD2).symm,h2,hx⟩
   ·intro E ys H' hE sm hd' hyl hys
    refine q E H' (s5.trans sm) (s5.free hE) ⟨ys,hd',Vf (by rw [hyl,Β,hxs.length]) λj y d hy Oc=>?_⟩;obtain ⟨a1,v1,rfl,_,h2,h3⟩:=hys j y hy;obtain ⟨d1,hd1,hv1⟩:=hxs.at h3;rw [Λ,hd1] at Oc
    cases Δ Oc
    refine .lst h2 (by rw [bn];omega) (Vf (by rw [bn,bn]) λt u w hu hw=>?_);rw [fk] at hu hw
    split at hu
    ·rename_i c
     rw [if_pos c] at hw
     cases Δ hu
     cases Δ hw
     exact hv1.keep sm
    ·cases hu
 | pick mk ps =>
  rw [kd] at hk
  rw [Ab] at ab
  rw [aH] at ok
  rw [dep] at hdp jX
  rw [WZ] at q
  obtain ⟨v,hT,hv⟩:=Wn hk;obtain ⟨b,vs,rfl,hb,hvs⟩:=Xe hv;obtain ⟨ts,bs,rfl,hl1,hl2,hts,hbs⟩:=VX ok.1 hvs;refine Xk hT (by decide +kernel) (Xk hT (by decide +kernel) (Xk hT (by decide +kernel) (Xk hT (by decide +kernel) (Xk hT (by decide +kernel) (Xk hT (by decide +kernel) ⟨few (by decide),λD hD=>?_⟩)))));have sD:=Yk.aj hD (.lst []);refine Ye2 (K:=g.K) (a:=b) (xs:=ts.map V.ref) (λi σ H'=>∃ D o3 o5 o6,σ=[some (.ref B),some (.ref a),some (.int n),o3,some (.ref D),o5,o6]/\Yk H H'/\H D=none/\dz H' D (cA (aF [(nm,lf)]) (mk.take i) (ps.take i) n)) (λR r=>by walk_at "rd";exact ⟨_,sD.tup hT,_,Yo (j:=1) rfl,r⟩) ⟨D,_,_,_,rfl,sD,hD,?_⟩ (λi σ H' _ ⟨_,_,_,_,_,s,_⟩=>s.tup hb) ?_ ?_
  ·rw [eS,eS,cA,cM]
   exact ⟨[],Yb,.nil⟩
  ·rintro i x σ H1 hx ⟨D,o3,o5,o6,rfl,s1,gD,hL⟩
   rw [Λ] at hx
   obtain ⟨T,hTi,rfl⟩:=ε.mp hx;have hi:=(Η.mp hTi).1;have hm:mk[i]?=some (mk[i]'(by omega)):=Ε _;have hp:ps[i]?=some (ps[i]'(by omega)):=Ε _;have hbi:bs[i]?=some (bs[i]'(by omega)):=Ε _;generalize mk[i]'(by omega)=mi at hm;generalize ps[i]'(by omega)=p at hp;generalize bs[i]'(by omega)=bi at hbi;have hTT:=hts i T mi bi hTi hm hbi;have hkp:=hbs i bi p hbi hp;have hpm:=Ξ hp;have d8':=VY (sh := .pick mk ps) L.ok hpm;obtain ⟨fs,hf,hfs⟩:=hL;have hpa:Ab (aF [(nm,lf)]) p:=N8 ab.2.2 hpm;have hdm:=X9 hpm;have okm:=WB ok.2.2.1 hpm;have hlb:=hpa.lb n hn;walk_at "rd";refine ⟨_,s1.tup hTT,rfl,_,_,rfl,_,_,rfl,rfl,?_⟩;refine Ye3 (K:=g.K) (λc xs H'=>Yk H1 H'/\H' c=some (.lst xs)/\aY H' xs (en (aF [(nm,lf)]) p n)) (λR r=>?_) ?_
   ·walk_at "rd"
    refine ⟨B,bi,nm,lf,p,n,rfl,⟨L.lb.keep s1,⟨hkp.keep s1,X5 p,by omega⟩,okm,hpa,hn,by omega,by omega⟩,λc H6 s6 _ qR=>?_⟩;obtain ⟨xs,hc,hxs⟩:=qR;exact r c xs H6 (au.of hc) ⟨s6,hc,hxs⟩
   ·rintro c xs H6 hS ⟨s6,hc,hxs⟩
    refine ⟨by rw [hxs.length];omega,λ_=>MkP (S mi) xs,λ_ j y H H' ⟨a,v,e,h1,h2⟩ s=>⟨a,v,e,s _ _ h1,h2⟩,λD j y H zs zs' ⟨a,v,e,h1,h2⟩ hp=>⟨a,v,e,by rw [Ye (by intro z;rw [z,hp] at h1;cases h1)];exact h1,h2⟩,?_,?_⟩
    ·intro E j y H' zs hy sm hE R r
     walk_at "rd";exact ⟨few (by decide),λp2 hp2=>r _ _ (.aj hp2 _) ⟨p2,y,rfl,Yb,hy⟩⟩
    ·intro E ys H' hE sm hd' hyl hys
     have vU:=s6.trans sm;refine ⟨E,rfl,fs,vU _ _ hf,ys,hd',few ?_,λP hP=>⟨s1.trans (vU.trans (.aj hP _)),s1.free (vU.free hP),?_⟩⟩
     ·have h0:=ab.1 n hn
      rw [WZ,Q3 (i+1) ok.1,Oa ok.1 hm hp,Μ,Μ,Β] at h0
      have:=hfs.length;have:=hxs.length;omega
     ·rw [Oa ok.1 hm hp]
      refine dz.app hP (hfs.keep vU) (Vf (by rw [hyl,hxs.length,Β]) λj y z hy hz=>?_);obtain ⟨a1,v1,rfl,h2,h3⟩:=hys j y hy;obtain ⟨d1,hd1,hv1⟩:=hxs.at h3;rw [Λ,hd1] at hz
      cases Δ hz
      exact .tup h2 (by simp) (.cons ⟨_,.str _ (ok.2.2.2 mi (Ξ hm))⟩ (.cons (hv1.keep sm) .nil))
  ·rintro σ H1 ⟨D,o3,o5,o6,rfl,s1,gD,hL⟩
   walk_at "rd";rw [Β,am (by omega),am (by omega)] at hL
   exact q D H1 s1 gD hL
inductive dI (K:Θ) (vs:List V) (H:Hp) (Q:VK) (E_:XK):Prop
 | mk (a:Addr) (ns:List Int) (k:Nat) (h0:vs=[.ref a,.int k]) (h1:au K H a (ns.map V.int)) (h2:ns.length<=63) (h3:Q (.int (ns.getD k 0)) H)
theorem Z64  (R:g.Raw "_law_cell_at" "_law_cell_at" zA ["_law_script","_law_k"]) (ao:g.mg "len"=none):g.Fn (1) "_law_cell_at" ["_law_script","_law_k"] (dI g.K):=by
 refine R.fn Z62 (λvs H Q E h=>by obtain ⟨a,ns,k,rfl,hS,hl,q⟩:=h;rfl) λf_ cdv A outer s H vs Q E hr h=>?_
 obtain ⟨a,ns,k,rfl,hS,hl,q⟩:=h;refine ⟨_,(Yf (YF (Yq U8 (pv 1) (YU ao YM (Ya (pv 0) Yd)) (Ys _)) (Yi (Yn (Yr YQ (pv 0) (pv 1)))) Yw) (Yi (Yn Yh))),?_⟩;walk_at "rd";refine ⟨_,.inl hS,Xy (λc=>?_) λc=>?_⟩
 ·rw [Β] at c
  have hk:k<ns.length:=by omega
  have e:ns.getD k 0=ns[k]:=by simp [ah,Ε hk]
  rw [e] at q
  exact ⟨_,hS,_,Yo (by rw [Λ,Ε hk];rfl),q⟩
 ·rw [Β] at c
  have hk:ns.length<=k:=by omega
  have e:ns.getD k 0=0:=by simp [ah,List.getElem?_eq_none hk]
  rw [e] at q
  exact q
theorem YgT {l:List Nat} {i c:Nat} (h:l[i]?=some c):dZ (S l).cps.toList (i:Int)=some c:=by rw [WK];exact Yo h
def NL:List Nat:=[97,98,99,100,101,102,103,104,105,106,107,108,109,110,111,112,113,114,115,116,117,118,119,120,121,122]
theorem YhF:ei "abcdefghijklmnopqrstuvwxyz"=S NL:=by decide +kernel
theorem Od:NL.length=26:=rfl
theorem Fd:∀ c∈NL,c<1000:=by decide +kernel
def jy (c:Int) (k j:Nat):Nat:=NL.getD ((if (j:Int)=c / 8%(1+c%8) then c / (64*((j:Int)+1))+(j:Int)*(j:Int)+(k:Int) else c / (64*((j:Int)+1))+(j:Int)*(j:Int))%26).toNat 0
def jZ (c:Int) (k:Nat):List Nat:=(ζ (1+c%8).toNat).map (jy c k)
theorem CN (c:Int) (k:Nat):∀ z∈jZ c k,z<1000:=by
 intro z hz;rw [jZ,ac] at hz
 obtain ⟨j,_,rfl⟩:=hz;unfold jy;refine Fd _ ?_;rw [ah,Ε (by rw [Od];omega)];exact List.getElem_mem _
inductive CP (vs:List V) (H:Hp) (Q:VK) (E_:XK):Prop
 | mk (c:Int) (k:Nat) (h0:vs=[.int c,.int k]) (h1:Q (.str (S (jZ c k))) H)
theorem YbO  (R:g.Raw "_law_name" "_law_name" zB ["_law_cell","_law_k"]) (Zg:g.mg "range"=none):g.Fn (1) "_law_name" ["_law_cell","_law_k"] (CP):=by
 refine R.fn jm (λvs H Q E h=>by obtain ⟨c,k,rfl,q⟩:=h;rfl) λf_ cdv A outer s H vs Q E hr h=>?_
 obtain ⟨c,k,rfl,q⟩:=h;refine ⟨_,(Yf (Yp (i:=2) jm.nd rfl (.inl rfl) YO) (Yf (Yp (i:=3) jm.nd rfl (.inl rfl) (Ym YZ Yh (Ym Xg (pv 0) Yh))) (Yf (Yp (i:=4) jm.nd rfl (.inl rfl) (Ym Xg (Ym YX (pv 0) Yh) (pv 3))) (Yf (Yp (i:=5) jm.nd rfl (.inl rfl) YO) (Yf (Xt ar rfl (Y2 rfl Zg (Ya (pv 3) Yd)) (Yu (i:=6) jm.nd rfl (.inl rfl)) (Yf (Yp (i:=7) jm.nd rfl (.inl rfl) (Ym YZ (Ym YX (pv 0) (Ym XG Yh (Ym YZ (pv 6) Yh))) (Ym XG (pv 6) (pv 6)))) (Yf (YF (Yq YL (pv 6) (pv 4) (Ys _)) (Yi (Yp (i:=7) jm.nd rfl (.inl rfl) (Ym YZ (pv 7) (pv 1)))) Yw) (Yi (Yp (i:=5) jm.nd rfl (.inl rfl) (Ym U9 (pv 5) (Yr GJ (pv 2) (Ym Xg (pv 7) Yh)))))))) (Yi (Yn (pv 5)))))))),?_⟩;have hm0:0<=c%8:=by omega
 obtain ⟨sz,esz,hsz⟩:=WY c (j:=8) (by decide);walk_at "rd";refine ⟨by decide,YS (by decide) (by decide),by omega,?_⟩;refine Xq (n:=sz+1) (λi σ H'=>∃ o6 o7,σ=[some (.int c),some (.int k),some (.str (S NL)),some (.int (1+c%8)),some (.int (c / 8%(1+c%8))),some (.str (S ((ζ i).map (jy c k)))),o6,o7]/\H'=H) (λR r=>?_) (by omega) ⟨_,_,by rw [YhF];rfl,rfl⟩ ?_ ?_
 ·walk_at "rd"
  rw [show 1+c%8=((sz+1:Nat):Int) by omega];exact r
 ·rintro i σ H' hi ⟨o6,o7,rfl,rfl⟩
  have key:∀ z:Int,jy c k i=NL.getD (z%26).toNat 0->xX (V.str (S NL)) (V.int (z%26)) H' λy H2=>∃ x,y=V.str x/\(S (List.map (jy c k) (ζ i))).length+x.length<=sizeLine/\S (List.map (jy c k) (ζ i))++x=S (List.map (jy c k) (ζ (i+1)))/\H2=H':=by
   intro z hz;obtain ⟨r,er,hr⟩:=WY z (j:=26) (by decide);rw [er] at hz ⊢
   have h1:NL[r]?=some (NL.getD r 0):=by rw [ah,Ε (show r<NL.length by rw [Od];omega)];rfl
   rw [br] at hz
   refine ⟨_,_,_,rfl,rfl,few (by rw [Xx];decide),YgT h1,?_⟩;refine ⟨_,rfl,few (by rw [Xx,Β,a4];show _+1<=_;omega),?_,rfl⟩;rw [En,uY,dn,bc,<- hz];rfl
  walk_at "rd";refine ⟨.inl (cm (m:=7) (n:=10) (by decide) (by omega)),YS (by omega) (by omega),.inl (cm (m:=10) (n:=10) (by omega) (by omega)),?_⟩;refine Xy (λc1=>⟨by decide,key _ ?_⟩) (λc1=>⟨by decide,key _ ?_⟩)
  ·rw [jy,if_pos c1]
  ·rw [jy,if_neg c1]
 ·rintro σ H' ⟨o6,o7,rfl,rfl⟩
  walk_at "rd";have e:sz+1=(1+c%8).toNat:=by omega
  rw [e];exact q
inductive fB:Sh->Prop
 | w (lo:Int) (span:Nat):span<=6->fB (.w lo span)
 | t (sg:List Nat):1<=sg.length->sg.length<=3->(∀ c∈sg,c<1000)->fB (.t sg)
theorem Sq {K:Θ} {H:Hp} {p:Addr} {lo:Int} {span:Nat} (h:H p=some (.tup [.str "whole",.int lo,.int (lo+span)])):DK K H p (kd (.w lo span)):=by
 refine ⟨?_,X5 _,by simp [kd,aa,θ]⟩;rw [kd];exact .tup (aJ.of h) (.cons (.str _ (by decide +kernel)) (.cons (.int _) (.cons (.int _) .nil)))
theorem CQ {K:Θ} {H:Hp} {p:Addr} {sg:List Nat} (h:H p=some (.tup [.str "text",.str (S sg)])) (hs:∀ c∈sg,c<1000):DK K H p (kd (.t sg)):=by
 refine ⟨?_,X5 _,by simp [kd,aa,θ]⟩;rw [kd];exact .tup (aJ.of h) (.cons (.str _ (by decide +kernel)) (.cons (.str _ (Vz hs)) .nil))
inductive vV (K:Θ) (vs:List V) (H:Hp) (Q:VK) (E_:XK):Prop
 | mk (c:Int) (h0:vs=[.int c]) (h1:∀ (p:Addr) (sh:Sh) H',fB sh->Yk H H'->DK K H' p (kd sh)->Q (.ref p) H')
def LT:List Nat:=[97,98,99,100,101,102,103,104,105,106,107,108,109,110,111,112,113,114,115,116,117,118,119,120,121,122,65,66,67,68,69,70,71,72,73,74,75,76,77,78,79,80,81,82,83,84,85,86,87,88,89,90,48,49,50,51,52,53,54,55,56,57]
theorem YhG:ei "abcdefghijklmnopqrstuvwxyzABCDEFGHIJKLMNOPQRSTUVWXYZ0123456789"=S LT:=by decide +kernel
theorem Yfv:∀ c∈LT,c<1000:=by decide +kernel
theorem YhH:LT.length=62:=by decide
theorem YhI (l:List Nat):VM (S l)=S l.reverse:=by rw [VM,WK];rfl
theorem YbP  (R:g.Raw "_law_leaf" "_law_leaf" zK ["_law_cell"]):g.Fn (1) "_law_leaf" ["_law_cell"] (vV g.K):=by
 refine R.fn qt (λvs H Q E h=>by obtain ⟨c,rfl,q⟩:=h;rfl) λf_ cdv A outer s H vs Q E hr h=>?_
 obtain ⟨c,rfl,q⟩:=h;refine ⟨_,(Yf (YF (Yq YL (Ym Xg (pv 0) Yh) Yh (Ys _)) (Yf (Yp (i:=1) qt.nd rfl (.inl rfl) (Ym Y3 (Ym Xg (Ym YX (pv 0) Yh) (Ym Gf Yh Yh)) (Ym XG Yh (Ym Gf Yh Yh)))) (Yi (Yn (Xb (Ya YO (Ya (pv 1) (Ya (Ym YZ (pv 1) (Yr YQ (Y0 (Ya Yh (Ya Yh (Ya Yh (Ya Yh Yd))))) (Ym Xg (Ym YX (pv 0) Yh) Yh))) Yd))))))) Yw) (Yf (Yp (i:=2) qt.nd rfl (.inl rfl) YO) (Yf (Yp (i:=3) qt.nd rfl (.inl rfl) (Ym Xg (Ym YX (pv 0) Yh) Yh)) (Yf (Yp (i:=4) qt.nd rfl (.inl rfl) (GF Yhe (pv 2) (QB (pv 3)) (QB (Ym YZ (Ym YZ (pv 3) Yh) (Ym Xg (Ym YX (pv 0) Yh) Yh))))) (Yi (Yn (Xb (Ya YO (Ya (Yr YQ (Y0 (Ya (pv 4) (Ya (@YgG _ _ _ _ _ _ _ (g.K) (pv 4) (Ur Vs Yh) (by rfl)) Yd))) (Ym Xg (Ym YX (pv 0) Yh) Yh)) Yd))))))))),?_⟩;walk_at "rd";refine ⟨by decide,Xy (λc0=>?_) (λc0=>?_)⟩
 ·refine ⟨YS (by decide) (by decide),Bb,by decide,Bb,.inl (cm (m:=3) (n:=64) (by decide) (by decide)),few (by decide),λp hp=>⟨YS (by decide) (by decide),by decide,?_⟩⟩
  generalize c / 8%10^kn 20 - 5*10^kn 19=lo;obtain ⟨w,hw,hw1⟩:∃ w:Nat,dZ [V.int 0,V.int 1,V.int 3,V.int 6] (c / 2%4)=some (.int w)/\w<=6:=by
   have:c / 2%4=0\/c / 2%4=1\/c / 2%4=2\/c / 2%4=3:=by omega
   rcases this with h | h | h | h<;>rw [h]
   ·exact ⟨0,rfl,by decide⟩
   ·exact ⟨1,rfl,by decide⟩
   ·exact ⟨3,rfl,by decide⟩
   ·exact ⟨6,rfl,by decide⟩
  refine ⟨_,au.of Yb,_,hw,w,rfl,few (by decide),λp1 hp1=>q p1 (.w lo w) _ (.w lo w hw1) ((Yk.aj hp _).trans (.aj hp1 _)) (Sq Yb)⟩
 ·refine ⟨YS (by decide) (by decide),by decide,YS (by decide) (by decide),by decide,?_⟩
  obtain ⟨st,est,hst⟩:=WY (c / 2) (j:=60) (by decide);obtain ⟨m0,em0,hm0⟩:=WY (c / 120) (j:=3) (by decide);rw [est,em0,YhG];have c1:VH (S LT) (some (st:Int)) (some ((st:Int)+1+(m0:Int)))=S ((LT.drop st).take (1+m0)):=by
   have:=YeY LT st (st+1+m0);rw [eA,eA,show ((1:Nat):Int)=1 from rfl] at this
   rw [this];congr 2;omega
  refine ⟨_,rfl,few (by rw [Xx];decide),?_⟩;rw [c1];have hlt:=YhH;generalize hsg:(LT.drop st).take (1+m0)=sg;have ht1:1<=sg.length:=by rw [<- hsg,aw,ir];omega
  have Oe:sg.length<=3:=by rw [<- hsg,aw];omega
  have vW:∀ z∈sg,z<1000:=λz hz=>Yfv z (by rw [<- hsg] at hz;exact List.mem_of_mem_drop (List.mem_of_mem_take hz))
  walk_at "rd";refine ⟨rfl,.inr (.inr ⟨S sg,rfl,few (by rw [Xx];omega),?_⟩)⟩;rw [YhI];refine ⟨few (by decide),λp hp=>⟨YS (by decide) (by decide),by decide,?_⟩⟩;have sp:=Yk.aj hp (.lst [.str (S sg),.str (S sg.reverse)]);have:c / 360%2=0\/c / 360%2=1:=by omega
  rcases this with h | h<;>rw [h]
  ·exact ⟨_,au.of Yb,_,Yo (j:=0) rfl,few (by decide),λp1 hp1=>q p1 (.t sg) _ (.t sg ht1 Oe vW) (sp.trans (.aj hp1 _)) (CQ Yb vW)⟩
  ·exact ⟨_,au.of Yb,_,Yo (j:=1) rfl,few (by decide),λp1 hp1=>q p1 (.t sg.reverse) _ (.t _ (by rw [b7];exact ht1) (by rw [b7];exact Oe) λz hz=>vW z (iq.mp hz)) (sp.trans (.aj hp1 _)) (CQ Yb λz hz=>vW z (iq.mp hz))⟩
inductive Dr (nm:List Nat):Nat->Sh->Prop
 | lf {d:Nat} {sh:Sh}:fB sh->Dr nm d sh
 | many {d:Nat} {p:Sh}:Dr nm d p->Dr nm (d+1) (.many p)
 | alike {d:Nat} {p:Sh} {k:Nat}:1<=k->k<=3->Dr nm d p->Dr nm (d+1) (.alike p k)
 | use {d:Nat}:Dr nm (d+1) (.use nm)
 | row {d:Nat} {p p':Sh}:Dr nm d p->Dr nm d p'->Dr nm (d+1) (.row [p,p'])
 | pick {d:Nat} {m m':List Nat} {p p':Sh}:bu (S m)=true->bu (S m')=true->Dr nm d p->Dr nm d p'->Dr nm (d+1) (.pick [m,m'] [p,p'])
theorem YgU {sh:Sh} (h:fB sh):(kd sh).depth<=1:=by
 cases h<;>simp [kd,aa,θ]
theorem ks1 {k e:Nat} (h:k<[7,3,1].getD (e+1) 0):2*k+1<[7,3,1].getD e 0/\2*k+2<[7,3,1].getD e 0/\e+1<=2/\k<=6:=by
 match e,h with
 | 0,h=>have h:k<3:=h;exact ⟨(by omega:2*k+1<7),(by omega:2*k+2<7),by decide,by omega⟩
 | 1,h=>have h:k<1:=h;exact ⟨(by omega:2*k+1<3),(by omega:2*k+2<3),by decide,by omega⟩
 | n+2,h=>cases h
theorem YgV {nm:List Nat} {d:Nat} {sh:Sh} (h:Dr nm d sh):(kd sh).depth<=1+3*d:=by
 induction h with
 | lf h=>have:=YgU h;omega
 | use=>simp [kd,aa,θ]
 | many _ ih=>simp only [kd,aa,θ,j0,ka];omega
 | alike _ _ _ ih=>simp only [kd,aa,θ,j0,ka];omega
 | row _ _ ih1 ih2=>simp only [kd,bQ,aa,θ,j0,ka];omega
 | pick _ _ _ _ ih1 ih2=>simp only [kd,kdp,aa,θ,j0,ka];omega
inductive vX (K:Θ) (m:Nat) (vs:List V) (H:Hp) (Q:VK) (E_:XK):Prop
 | mk (a:Addr) (ns:List Int) (d k:Nat) (nm:List Nat) (h0:vs=[.ref a,.int d,.int k,.str (S nm)]) (h1:au K H a (ns.map V.int)) (h2:ns.length<=63) (h3:bu (S nm)=true) (h4:k<[7,3,1].getD d 0) (h5:d<m) (h6:∀ (p:Addr) (sh:Sh) H',Dr nm d sh->Yk H H'->DK K H' p (kd sh)->Q (.ref p) H')
theorem YeL {K:Θ} {vs:List V} {H:Hp} {Q:VK} {E:XK} (h:vX K 0 vs H Q E):False:=by
 obtain ⟨_,_,_,_,_,_,_,_,_,_,h,_⟩:=h;omega
theorem Uu {K:Θ} {H:Hp} {p:Addr} {nm:List Nat} {d:Nat} {sh:Sh} (h:Dr nm d sh) (hd:d<=2) (k:Den K H (.ref p) (kd sh)):DK K H p (kd sh):=⟨k,X5 sh,by have:=YgV h;omega⟩
theorem CT {k:Nat}  (R:g.Raw "_law_shape" "_law_shape" zL ["_law_script","_law_deep","_law_at","_law_name_here"]) (iQ:g.Fn k "_law_cell_at" ["_law_script","_law_k"] (dI g.K)) (vY:g.Fn k "_law_name" ["_law_cell","_law_k"] (CP)) (CV:g.Fn k "_law_leaf" ["_law_cell"] (vV g.K)) (vZ:g.Fn k "_law_shape" ["_law_script","_law_deep","_law_at","_law_name_here"] (vX g.K m)):g.Fn (k+1) "_law_shape" ["_law_script","_law_deep","_law_at","_law_name_here"] (vX g.K (m+1)):=by
 refine R.fn qu (λvs H Q E h=>by obtain ⟨a,ns,d,k,nm,rfl,hS,hl,hs,hd2,hd,q⟩:=h;rfl) λf_ cdv A outer s H vs Q E hr h=>?_
 obtain ⟨a,ns,d,k,nm,rfl,hS,hl,hs,hd2,hd,q⟩:=h;refine ⟨_,(Yf (Yp (i:=4) qu.nd rfl (.inl rfl) (YA iQ hr (Ya (pv 0) (Ya (pv 2) Yd)))) (Yf (Yp (i:=5) qu.nd rfl (.inl rfl) (Ym Xg (pv 4) Yh)) (Yf (YF (uG (Yq YL (pv 1) Yh (Ys _)) (U4 (Yq U8 (pv 5) Yh (Ys _)))).pt (Yi (Yn (YA CV hr (Ya (Ym YX (pv 4) Yh) Yd)))) Yw) (Yf (Yp (i:=6) qu.nd rfl (.inl rfl) (YA vZ hr (Ya (pv 0) (Ya (Ym Y3 (pv 1) Yh) (Ya (Ym YZ (Ym XG Yh (pv 2)) Yh) (Ya (pv 3) Yd)))))) (Yf (YF (Yq YL (pv 5) Yh (Ys _)) (Yi (Yn (Xb (Ya YO (Ya (pv 6) Yd))))) Yw) (Yf (YF (Yq YL (pv 5) Yh (Ys _)) (Yi (Yn (Xb (Ya YO (Ya (pv 6) (Ya (Ym YZ Yh (Ym Xg (Ym YX (pv 4) Yh) Yh)) Yd)))))) Yw) (Yf (YF (Yq YL (pv 5) Yh (Ys _)) (Yi (Yn (Xb (Ya YO (Ya (pv 3) Yd))))) Yw) (Yf (Yp (i:=7) qu.nd rfl (.inl rfl) (YA vZ hr (Ya (pv 0) (Ya (Ym Y3 (pv 1) Yh) (Ya (Ym YZ (Ym XG Yh (pv 2)) Yh) (Ya (pv 3) Yd)))))) (Yf (YF (Yq YL (pv 5) Yh (Ys _)) (Yi (Yn (Xb (Ya YO (Ya (Xb (Ya (pv 6) (Ya (pv 7) Yd))) Yd (Wq _ _ _ _ _)))))) Yw) (Yi (Yn (Xb (Ya YO (Ya (Xb (Ya (Xb (Ya (YA vY hr (Ya (Ym YX (pv 4) Yh) (Ya Yh Yd))) (Ya (pv 6) Yd))) (Ya (Xb (Ya (YA vY hr (Ya (Ym YX (pv 4) Yh) (Ya Yh Yd))) (Ya (pv 7) Yd))) Yd (Wq _ _ _ _ _)) (Wq _ _ _ _ _))) Yd (Wq _ _ _ _ _))))))))))))))),?_⟩;have leaf:∀ (c:Int) H1,Yk H H1->∃ i,V.int c=V.int i/\yH i 7/\vV g.K [V.int (i / 7)] H1 Q E0:=λc H1 s1=>⟨c,rfl,YS (by decide) (by decide),c / 7,rfl,λp sh H' hl s hk=>q p sh H' (.lf hl) (s1.trans s) hk⟩
 walk_at "rd";refine ⟨a,ns,k,rfl,hS,hl,?_⟩;generalize ns.getD k 0=c at *;refine ⟨_,rfl,by decide,Xy (λ_=>leaf c H (.refl _)) (λc0=>Xy (λ_=>leaf c H (.refl _)) (λc1=>?_))⟩;obtain ⟨e,rfl⟩:∃ e,d=e+1:=⟨d - 1,by omega⟩;obtain ⟨hk1,hk2,he,hk6⟩:=ks1 hd2;clear hd2;refine ⟨.inl (cm (m:=3) (n:=10) (by decide) (by omega)),?_⟩;have e1:((e+1:Nat):Int) - 1=(e:Int):=by omega
 rw [e1];refine ⟨a,ns,e,2*k+1,nm,by rw [show ((2*k+1:Nat):Int)=2*(k:Int)+1 by omega],hS,hl,hs,hk1,by omega,λp1 sh1 H1 d1 s1 k1=>?_⟩;refine Xy (λ_=>⟨few (by decide),λp hp=>?_⟩) (λ_=>Xy (λ_=>⟨c,rfl,YS (by decide) (by decide),by decide,few (by decide),λp hp=>?_⟩) (λ_=>Xy (λ_=>⟨few (by decide),λp hp=>?_⟩) (λ_=>⟨.inl (cm (m:=3) (n:=10) (by decide) (by omega)),?_⟩)))
 ·have sp:=Yk.aj hp (.tup [V.str (ei "many"),V.ref p1])
  have D:=Dr.many d1;refine q p _ _ D (s1.trans sp) (Uu D he ?_);rw [kd];exact .tup (aJ.of Yb) (.cons (.str _ (by decide +kernel)) (.cons (k1.den.keep sp) .nil))
 ·obtain ⟨r,er,hr⟩:=WY (c / 7) (j:=3) (by decide)
  have e2:(1:Int)+c / 7%3=((1+r:Nat):Int):=by omega
  rw [e2];have sp:=Yk.aj hp (.tup [V.str (ei "alike"),V.ref p1,V.int ((1+r:Nat):Int)]);have D:=Dr.alike (k:=1+r) (by omega) (by omega) d1;refine q p _ _ D (s1.trans sp) (Uu D he ?_);rw [kd];exact .tup (aJ.of Yb) (.cons (.str _ (by decide +kernel)) (.cons (k1.den.keep sp) (.cons (.int _) .nil)))
 ·have D:=Dr.use (nm:=nm) (d:=e)
  refine q p _ _ D (s1.trans (.aj hp _)) (Uu D he ?_);rw [kd];exact .tup (aJ.of Yb) (.cons (.str _ (by decide +kernel)) (.cons (.str _ hs) .nil))
 ·refine ⟨a,ns,e,2*k+2,nm,by rw [show ((2*k+2:Nat):Int)=2*(k:Int)+2 by omega],s1.seq hS,hl,hs,hk2,by omega,λp2 sh2 H2 d2 s2 k2=>Xy (λ_=>⟨few (by decide),λp hp=>⟨few (by decide),λp3 hp3=>?_⟩⟩) (λ_=>?_)⟩
  ·have sp:=Yk.aj hp (.tup [V.ref p1,V.ref p2])
   have v7:=Yk.aj hp3 (.tup [V.str (ei "row"),V.ref p]);have D:=Dr.row d1 d2;refine q p3 _ _ D ((s1.trans s2).trans (sp.trans v7)) (Uu D he ?_);rw [kd,bQ,bQ,bQ];exact .tup (aJ.of Yb) (.cons (.str _ (by decide +kernel)) (.cons (.tup (aJ.of (v7 _ _ Yb)) (.cons (k1.den.keep (s2.trans (sp.trans v7))) (.cons (k2.den.keep (sp.trans v7)) .nil))) .nil))
  ·refine ⟨c,rfl,YS (by decide) (by decide),c / 7,1,rfl,few (by decide),λt1 g1=>⟨c,rfl,YS (by decide) (by decide),c / 7,0,rfl,few (by decide),λt2 g2=>⟨few (by decide),λt3 g3=>⟨few (by decide),λt4 g4=>?_⟩⟩⟩⟩
   have w1:=Yk.aj g1 (.tup [V.str (S (jZ (c / 7) 1)),V.ref p1]);have w2:=Yk.aj g2 (.tup [V.str (S (jZ (c / 7) 0)),V.ref p2]);have w3:=Yk.aj g3 (.tup [V.ref t1,V.ref t2]);have w4:=Yk.aj g4 (.tup [V.str (ei "pick"),V.ref t3]);have o1:bu (S (jZ (c / 7) 1))=true:=Vz (CN _ _);have o2:bu (S (jZ (c / 7) 0))=true:=Vz (CN _ _);have D:=Dr.pick o1 o2 d1 d2;have w34:=w3.trans w4;have w24:=w2.trans w34;have w14:=w1.trans w24;refine q t4 _ _ D ((s1.trans s2).trans w14) (Uu D he ?_);rw [kd,kdp,kdp,kdp]
   ·exact .tup (aJ.of Yb) (.cons (.str _ (by decide +kernel)) (.cons (.tup (aJ.of (w4 _ _ Yb)) (.cons (.tup (aJ.of (w24 _ _ Yb)) (.cons (.str _ o1) (.cons (k1.den.keep (s2.trans w14)) .nil))) (.cons (.tup (aJ.of (w34 _ _ Yb)) (.cons (.str _ o2) (.cons (k2.den.keep w14) .nil))) .nil))) .nil))
   all_goals simp
def cv (g h:Nat->Nat) (s:Nat):Nat:=((ζ (s+1)).map λf=>g f*h (s - f)).sum
def B3:Nat->Nat->Nat
 | 0,f=>3^f
 | 1,f=>[2,6,27,108,405,1458].getD f 0
 | _,f=>[4,24,144,756,3645,16524].getD f 0
def M3:Nat->Nat->Nat
 | 0,f=>[1,1,4,16,64,256].getD f 0
 | _,f=>[1,2,10,59,340,1925].getD f 0
theorem Og:∀ d:Fin 3,∀ f:Fin 6,3^f.val<=B3 d.val f.val/\B3 d.val f.val<=20000:=by decide +kernel
theorem Qx:∀ d:Fin 2,∀ f:Fin 6,cv (B3 d.val) (B3 d.val) f.val<=B3 (d.val+1) f.val/\B3 d.val f.val+B3 d.val f.val<=B3 (d.val+1) f.val/\M3 d.val f.val<=B3 (d.val+1) f.val/\1<=M3 d.val 0:=by decide +kernel
theorem YgW:∀ d:Fin 2,∀ f:Fin 5,cv (B3 d.val) (M3 d.val) f.val<=M3 d.val (f.val+1):=by decide +kernel
theorem Yfw:∀ d:Fin 2,∀ f:Fin 6,∀ k:Fin 4,1<=k.val->k.val<=f.val->B3 d.val (f.val / k.val - 1)<=B3 (d.val+1) f.val:=by decide +kernel
theorem YhJ:∀ d:Fin 2,∀ f:Fin 5,3^f.val<=B3 (d.val+1) (f.val+1):=by decide +kernel
theorem CW {α:Type} {g h:α->Nat}:∀ {l:List α},(∀ x∈l,g x<=h x)->(l.map g).sum<=(l.map h).sum
 | [],_=>Κ _
 | a::l,hh=>by
  rw [χ,χ,eC,eC];exact da (hh a (.head _)) (CW λx hx=>hh x (.tail _ hx))
theorem Oh {g g' h h':Nat->Nat} {s:Nat} (hg:∀ f,f<=s->g f<=g' f) (hh:∀ f,f<=s->h f<=h' f):cv g h s<=cv g' h' s:=CW λf hf=>Nat.mul_le_mul (hg f (by have:=bb.mp hf;omega)) (hh (s - f) (by omega))
theorem UZ {α β γ:Type} (g:α->β->γ) (A:Nat->List α) (B:Nat->List β) (s:Nat):((ζ (s+1)).flatMap λf=>bf g (A f) (B (s - f))).length=cv (λf=>(A f).length) (λf=>(B f).length) s:=by
 rw [List.length_flatMap,cv]
 congr 1
 exact a9 λf _=>X1 _ _ _
theorem U0 (bk:List Nat->Sh) (q:Sh) (t:Nat):(bR bk [q] t).length=(en bk q t).length:=by
 rw [XX,UZ,cv,dn,bc,List.sum_append,χ,fb,eC,List.sum_nil,gc,Wa,if_pos rfl];have:((ζ t).map λf=>(en bk q f).length*(bR bk [] (t - f)).length).sum=0:=by
  rw [a9 (g:=λ_=>0) λf hf=>by
   have:=bb.mp hf;rw [Wa,if_neg (by omega)];rfl]
  exact Nat.le_zero.mp (Τ (CW (h:=λ_=>0) λ_ _=>Κ _) (by induction (ζ t)<;>simp_all))
 rw [this];simp
theorem Yfx (bk:List Nat->Sh) (p q:Sh) (s:Nat):(bR bk [p,q] s).length=cv (λf=>(en bk p f).length) (λf=>(en bk q f).length) s:=by
 rw [XX,UZ]
 congr 1
 exact funext λt=>U0 bk q t
theorem YhK {G:Nat->List Γ} {d:Nat} (hd:d<2) (h:∀ f,f<=5->(G f).length<=B3 d f):∀ s,s<=5->(cC G s).length<=M3 d s:=by
 intro s
 induction s using Nat.strongRecOn with
 | ind s ih =>
  intro hs
  cases s with
  | zero=>rw [VR];exact (Qx ⟨d,hd⟩ ⟨0,by omega⟩).2.2.2
  | succ s =>
   rw [XC,UZ];exact Τ (Oh (λf hf=>h f (by omega)) λf hf=>ih f (by omega) (by omega)) (YgW ⟨d,hd⟩ ⟨s,by omega⟩)
theorem CZ {sg:List Nat} (h:sg.length<=3):∀ s,(cj sg s).length<=3^s
 | 0=>Κ _
 | s+1=>by
  rw [cj,X1,Nat.pow_succ];exact Nat.mul_le_mul (CZ h s) h
section
 variable {nm:List Nat} {lf:Sh}
theorem Oi {bk:List Nat->Sh} {sh:Sh} (h:fB sh) (s:Nat):(en bk sh s).length<=3^s:=by
 cases h with
 | w lo span h =>
  rw [qx,Β,a4];have:=KY span s;have h2:((2^s:Nat):Int)=2^s:=by norm_cast
  have h3:2^s<=3^s:=Nat.pow_le_pow_left (by decide) s;omega
 | t sg _ h _=>rw [VT,Β];exact CZ h s
theorem Oj:aF [(nm,lf)] nm=lf:=by unfold aF;rw [a7,decide_eq_true rfl];rfl
theorem Ol (bY:fB lf) {d:Nat} {sh:Sh} (h:Dr nm d sh):d<=2->∀ f,f<=5->(en (aF [(nm,lf)]) sh f).length<=B3 d f:=by
 induction h with
 | @lf d sh h=>exact λhd f hf=>Τ (Oi h f) (Og ⟨d,by omega⟩ ⟨f,by omega⟩).1
 | @use d =>
  intro hd f hf
  cases f with
  | zero=>rw [Uz];exact ν _
  | succ f =>
   rw [Ue,Oj];exact Τ (Oi bY f) (YhJ ⟨d,by omega⟩ ⟨f,by omega⟩)
 | @many d p _ ih =>
  intro hd f hf;rw [Xs,Β];exact Τ (YhK (by omega) (ih (by omega)) f hf) (Qx ⟨d,by omega⟩ ⟨f,by omega⟩).2.2.1
 | @alike d p k h1 h3 _ ih =>
  intro hd f hf;rw [Vc]
  split
  ·exact ν _
  ·rename_i c
   have:=dm f k;rw [Β];exact Τ (ih (by omega) (f / k - 1) (by omega)) (Yfw ⟨d,by omega⟩ ⟨f,by omega⟩ ⟨k,by omega⟩ h1 (by show k<=f;omega))
 | @row d p p' _ _ ih1 ih2 =>
  intro hd f hf;rw [Vb,Β,Yfx];exact Τ (Oh (λt ht=>ih1 (by omega) t (by omega)) λt ht=>ih2 (by omega) t (by omega)) (Qx ⟨d,by omega⟩ ⟨f,by omega⟩).1
 | @pick d m m' p p' _ _ _ _ ih1 ih2 =>
  intro hd f hf;have h1:=ih1 (by omega) f hf;have h2:=ih2 (by omega) f hf;have h3:B3 d f+B3 d f<=B3 (d+1) f:=(Qx ⟨d,by omega⟩ ⟨f,by omega⟩).2.1;rw [WZ,XR,XR,Μ,Μ,Β,Β,cA,cM];simp only [iX];omega
theorem WW (bY:fB lf) {d:Nat} {sh:Sh} (h:Dr nm d sh) (hd:d<=2):∀ f,f<=5->(en (aF [(nm,lf)]) sh f).length<=20000:=λf hf=>Τ (Ol bY h hd f hf) (Og ⟨d,by omega⟩ ⟨f,by omega⟩).2
theorem Om (bY:fB lf) {sh:Sh} (h:fB sh):Ab (aF [(nm,lf)]) sh:=by
 have:=WW bY (Dr.lf (nm:=nm) (d:=0) h) (by decide)
 cases h with
 | w lo span h=>rw [Ab];exact ⟨h,this⟩
 | t sg _ _ _=>rw [Ab];exact this
theorem Fe (bY:fB lf) {d:Nat} {sh:Sh} (h:Dr nm d sh):d<=2->Ab (aF [(nm,lf)]) sh:=by
 induction h with
 | lf h=>exact λ_=>Om bY h
 | use=>intro hd;rw [Ab];exact WW bY .use hd
 | many hp ih=>intro hd;rw [Ab];exact ⟨WW bY (.many hp) hd,ih (by omega)⟩
 | alike h1 h3 hp ih=>intro hd;rw [Ab];exact ⟨WW bY (.alike h1 h3 hp) hd,h3,ih (by omega)⟩
 | @row d p p' hp hq ih1 ih2 =>
  intro hd;have a1:=WW bY (.row hp hq) hd;rw [Ab,eE,eE,eE];refine ⟨a1,by simp,ih1 (by omega),⟨ih2 (by omega),trivial,λf hf=>?_⟩,λf hf=>?_⟩
  ·rw [U0]
   exact WW bY hq (by omega) f hf
  ·have:=a1 f hf
   rwa [Vb,Β] at this
 | @pick d m m' p p' o1 o2 hp hq ih1 ih2 =>
  intro hd;have a1:=WW bY (.row hp hq) hd;rw [Ab,eE,eE,eE];refine ⟨WW bY (.pick o1 o2 hp hq) hd,by simp,ih1 (by omega),⟨ih2 (by omega),trivial,λf hf=>?_⟩,λf hf=>?_⟩
  ·rw [U0]
   exact WW bY hq (by omega) f hf
  ·have:=a1 f hf
   rwa [Vb,Β] at this
theorem Vl {prs:aR} {sh:Sh} (h:fB sh):aH prs sh/\wt sh=1/\dep sh=0:=by
 cases h with
 | w lo span h=>exact ⟨by rw [aH];trivial,by simp only [wt],by simp only [dep]⟩
 | t sg h1 h2 h3=>exact ⟨by rw [aH];exact ⟨h1,by omega,h3⟩,by simp only [wt],by simp only [dep]⟩
theorem Oo {d:Nat} {sh:Sh} (h:Dr nm d sh):aH [(nm,lf)] sh:=by
 induction h with
 | lf h=>exact (Vl h).1
 | use=>rw [aH];exact ⟨_,by rw [a7,decide_eq_true rfl]⟩
 | many _ ih=>rw [aH];exact ih
 | alike h1 h3 _ ih=>rw [aH];exact ⟨ih,h1,by omega⟩
 | row _ _ ih1 ih2=>rw [aH,Xf,Xf,Xf];exact ⟨by simp,ih1,ih2,trivial⟩
 | pick o1 o2 _ _ ih1 ih2 =>
  rw [aH,Xf,Xf,Xf];refine ⟨rfl,by simp,⟨ih1,ih2,trivial⟩,λm hm=>?_⟩;simp only [Ν,ς,or_false] at hm;rcases hm with rfl | rfl
  ·exact o1
  ·exact o2
theorem Oq {d:Nat} {sh:Sh} (h:Dr nm d sh):dep sh<=d:=by
 induction h with
 | lf h=>rw [(Vl (prs:=[]) h).2.2];exact ν _
 | use=>simp only [dep];omega
 | many _ ih=>rw [dep];omega
 | alike _ _ _ ih=>rw [dep];omega
 | row _ _ ih1 ih2=>simp only [dep,YH];omega
 | pick _ _ _ _ ih1 ih2=>simp only [dep,YH];omega
theorem Fg {d:Nat} {sh:Sh} (h:Dr nm d sh):d<=2->wt sh<=[1,3,7].getD d 0:=by
 induction h with
 | @lf d _ h =>
  intro hd;rw [(Vl (prs:=[]) h).2.1]
  match d,hd with
  | 0,_=>decide
  | 1,_=>decide
  | 2,_=>decide
 | @use d =>
  intro hd;simp only [wt]
  match d,hd with
  | 0,_=>decide
  | 1,_=>decide
 | @many d _ _ ih =>
  intro hd;have ih:=ih (by omega);rw [wt]
  match d,hd,ih with
  | 0,_,ih=>exact Τ (cq ih) (by decide)
  | 1,_,ih=>exact Τ (cq ih) (by decide)
 | @alike d _ _ _ _ _ ih =>
  intro hd;have ih:=ih (by omega);rw [wt]
  match d,hd,ih with
  | 0,_,ih=>exact Τ (cq ih) (by decide)
  | 1,_,ih=>exact Τ (cq ih) (by decide)
 | @row d _ _ _ _ ih1 ih2 =>
  intro hd;have ih1:=ih1 (by omega);have ih2:=ih2 (by omega);simp only [wt,aO]
  match d,hd,ih1,ih2 with
  | 0,_,a,b=>exact Τ (cq (da a (da b (Κ 0)))) (by decide)
  | 1,_,a,b=>exact Τ (cq (da a (da b (Κ 0)))) (by decide)
 | @pick d _ _ _ _ _ _ _ _ ih1 ih2 =>
  intro hd;have ih1:=ih1 (by omega);have ih2:=ih2 (by omega);simp only [wt,aO]
  match d,hd,ih1,ih2 with
  | 0,_,a,b=>exact Τ (cq (da a (da b (Κ 0)))) (by decide)
  | 1,_,a,b=>exact Τ (cq (da a (da b (Κ 0)))) (by decide)
theorem YgX {d:Nat} {sh:Sh} (h:Dr nm d sh) (hd:d<=2):wt sh<=24:=Τ (Fg h hd) (by
 match d,hd with
 | 0,_=>decide
 | 1,_=>decide
 | 2,_=>decide)
end
structure LZ (K:Θ) (H:Hp) (B a:Addr) (nm:List Nat) (lf sh:Sh):Prop where
 lb:LB K H B nm lf
 lf:fB lf
 hk:DK K H a (kd sh)
 dr:Dr nm 2 sh
theorem LZ.keep {K:Θ} {H H':Hp} {B a:Addr} {nm:List Nat} {lf sh:Sh} (h:LZ K H B a nm lf sh) (s:Yk H H'):LZ K H' B a nm lf sh:=⟨h.lb.keep s,h.lf,h.hk.keep s,h.dr⟩
theorem LZ.la {K:Θ} {H:Hp} {B a:Addr} {nm:List Nat} {lf sh:Sh} {n:Nat} (h:LZ K H B a nm lf sh) (hn:n<=5):LA K H B a nm lf sh n 118:=by
 have:=Oq h.dr;exact ⟨h.lb,h.hk,Oo h.dr,Fe h.lf h.dr (by decide),hn,this,by omega⟩
inductive lR (K:Θ) (vs:List V) (H:Hp) (Q:VK) (E_:XK):Prop
 | mk (B a:Addr) (nm:List Nat) (lf sh:Sh) (w:Nat) (h0:vs=[.ref B,.ref a,.int w,.int 40]) (h1:LZ K H B a nm lf sh) (h2:w<=5) (h3:∀ (n:Nat) H',Yk H H'->n<=5->(en (aF [(nm,lf)]) sh n).length<=40->Q (.int n) H')
theorem YbQ {k:Nat}  (R:g.Raw "_law_size" "_law_size" zM ["_law_book","_law_shape_here","_law_want","_law_most"]) (gY:g.Fn k "_law_all" ["_law_book","_law_shape_here","_law_size_here"] (cU g.K 118)) (ao:g.mg "len"=none):g.Fn (k+1) "_law_size" ["_law_book","_law_shape_here","_law_want","_law_most"] (lR g.K):=by
 refine R.fn zN (λvs H Q E h=>by obtain ⟨B,a,nm,lf,sh,w,rfl,L,hw,q⟩:=h;rfl) λf_ cdv A outer s H vs Q E hr h=>?_
 obtain ⟨B,a,nm,lf,sh,w,rfl,L,hw,q⟩:=h;refine ⟨_,(Yf (Yp (i:=4) zN.nd rfl (.inl rfl) Yh) (Yf (W6 ar (Te (Yq U8 (pv 4) (pv 2) (Ys _)) (Td (Yq xM (YU ao YM (Ya (YA gY hr (Ya (pv 0) (Ya (pv 1) (Ya (Ym YZ (pv 4) Yh) Yd)))) Yd)) (pv 3) (Ys _)))).pt (Yi (Yp (i:=4) zN.nd rfl (.inl rfl) (Ym YZ (pv 4) Yh)))) (Yi (Yn (pv 4))))),?_⟩;walk_at "rd";refine X6 (α:=Nat) (λs σ H'=>σ=[some (.ref B),some (.ref a),some (.int w),some (.int 40),some (.int (s:Nat))]/\Yk H H'/\s<=w/\(en (aF [(nm,lf)]) sh s).length<=40) (λs=>decide (s<w/\(en (aF [(nm,lf)]) sh (s+1)).length<=40)) (λs=>w - s) 0 ⟨rfl,.refl _,by omega,?_⟩ ?_ ?_ ?_
 ·exact Τ (Ol L.lf L.dr (by decide) 0 (by decide)) (by decide)
 ·rintro s σ H' ⟨rfl,s1,hs,hc⟩ R r
  walk_at "rd";refine Xy (λc=>?_) (λc=>?_)
  ·refine ⟨B,a,nm,lf,sh,s+1,rfl,(L.keep s1).la (by omega),λD H2 s2 _ hL=>?_⟩
   obtain ⟨vs,hd,hv⟩:=hL;refine ⟨D,rfl,_,.inl (au.of hd),?_⟩;have:=r H2 ⟨rfl,s1.trans s2,hs,hc⟩;rw [hv.length]
   rwa [show decide (s<w/\(en (aF [(nm,lf)]) sh (s+1)).length<=40)=decide (((en (aF [(nm,lf)]) sh (s+1)).length:Int)<=40) by
    have:s<w:=by omega
    simp only [this,true_and];exact decide_eq_decide.mpr (by omega)] at this
  ·have:=r H' ⟨rfl,s1,hs,hc⟩
   rwa [decide_eq_false (by omega)] at this
 ·rintro s σ H' ⟨rfl,s1,hs,hc⟩ c
  have c:=of_decide_eq_true c;walk_at "rd";exact ⟨s+1,rfl,s1,by omega,c.2,by omega⟩
 ·rintro s σ H' ⟨rfl,s1,hs,hc⟩ c
  walk_at "rd";exact q s H' s1 (by omega) hc
theorem YeN {src:List (Option Nat)} {ta:TA} {tt:TT} {te:TE} {σ:St} {H:Hp} {Q:VK} {n:Nat} (hn:n<=100000) (ha:∀ R:List V->Hp->Prop,R [.int (n:Int)] H->ta σ H R)
  (test:∀ (i:Nat) H',i<n->Yk H H'->∀ R:Bool->Hp->Prop,(∀ aG,Yk H' aG->R false aG)->tt (some (.int (i:Int))::Yy src σ) H' R)
  (fin:∀ D H',Yk H H'->H' D=some (.lst [])->Q (.ref D) H'):cW (none::src) (Uq ta) (Yv 0) tt te σ H Q:=by
 refine ha _ ⟨(n:Int),rfl,by omega,by omega,λD hD=>?_⟩;refine Yhg (J:=je 0 (kn (n:Int))) (P:=λ_=>True) (n:=n) (λi _ _ hi=>?_) (λ_ _=>?_) (λi ys σ' H'=>ys=[]/\(∃ o,σ'=o::Yy src σ)/\Yk H H'/\H' D=some (.lst [])) ⟨rfl,⟨none,rfl⟩,.aj hD _,Yb⟩ (λi ys σ' H' p=>⟨trivial,by rw [p.1];exact p.2.2.2⟩) ?_ ?_
 ·show i<kn (n:Int)
  omega
 ·show kn (n:Int)<=n
  omega
 ·rintro i ys σ' H' hi ⟨rfl,⟨o,rfl⟩,sm,hd⟩ x H3 ⟨rfl,rfl⟩
  have e:(0:Int)+(i:Int)=(i:Int):=by omega
  rw [e];exact test i H3 hi sm _ λaG s2=>by
   rw [if_neg (by simp)];exact ⟨rfl,⟨_,rfl⟩,sm.trans s2,s2 _ _ hd⟩
 ·rintro ys σ' H' ⟨rfl,_,sm,hd⟩
  exact fin D H' sm hd
inductive fZ (m:Nat) (vs:List V) (H:Hp) (Q:VK) (E_:XK):Prop
 | mk (v w:V) (d:Γ) (h0:vs=[v,w]) (h1:DV H v d) (h2:DV H w d) (h3:d.depth<m) (h4:∀ H',Yk H H'->Q (.bl true) H')
theorem YgY {vs:List V} {H:Hp} {Q:VK} {E:XK} (h:fZ 0 vs H Q E):False:=by
 obtain ⟨v,w,d,_,_,_,h,_⟩:=h;omega
def Two (H:Hp) (a b:Addr) (vs ws:List V):Prop:=(H a=some (.lst vs)/\H b=some (.lst ws))\/(H a=some (.tup vs)/\H b=some (.tup ws))
inductive Ot (m:Nat) (vs:List V) (H:Hp) (Q:VK) (E_:XK):Prop
 | mk (a b:Addr) (xs ys:List V) (ds:List Γ) (h0:vs=[.ref a,.ref b]) (h1:Two H a b xs ys) (h2:aY H xs ds) (h3:aY H ys ds) (h4:ds.length<=10000) (h5:θ ds<m) (h6:∀ H',Yk H H'->Q (.bl true) H')
theorem qW {k:Nat}  (R:g.Raw "_law_rows_same" "_law_rows_same" zP ["_law_one","_law_other"]) (v8:g.Fn k "_law_same" ["_law_one","_law_other"] (fZ m)) (ao:g.mg "len"=none) (Zg:g.mg "range"=none):g.Fn (k+1) "_law_rows_same" ["_law_one","_law_other"] (Ot m):=by
 refine R.fn Z5J (λvs H Q E h=>by obtain ⟨a,b,xs,ys,ds,rfl,ht,hv,hw,hl,hd,q⟩:=h;rfl) λf_ cdv A outer s H vs Q E hr h=>?_
 obtain ⟨a,b,xs,ys,ds,rfl,ht,hv,hw,hl,hd,q⟩:=h;refine ⟨_,(Yf (YF (Yq Gp (YU ao YM (Ya (pv 0) Yd)) (YU ao YM (Ya (pv 1) Yd)) (Ys _)) (Yi (Yn Uo)) Yw) (Yi (Yn (WX (yI hr.units) (Xn (src:=[none,some 0,some 1]) (N':=(["_law_k","_law_one","_law_other"]:List Str)) (g:=Yv 0) (.own (.cap (i:=0) rfl rfl (by first | exact .inl rfl | exact .inr rfl) (.cap (i:=1) rfl rfl (by first | exact .inl rfl | exact .inr rfl) .nil))) rfl (Y2 rfl Zg (Ya (YU ao YM (Ya (pv 0) Yd)) Yd)) (λcl C s₀ H₀ fp pn=>(Yu (i:=0) (show ay (["_law_k","_law_one","_law_other"]:List Str) by decide +kernel) rfl (.inl rfl) (.inr rfl))) (λcl C s₀ H₀ fp pn=>(QF (wO (X3 (YA v8 hr (Ya (Ie (Yr (HB (K:=g.K)) (pv 1) (pv 0)) (Yr (QH (K:=g.K)) (pv 1) (pv 0))) (Ya (Ie (Yr (HB (K:=g.K)) (pv 2) (pv 0)) (Yr (QH (K:=g.K)) (pv 2) (pv 0))) Yd))))))) (λcl C s₀ H₀ fp pn=>(pv 0))) (Y0 Yd) (Ys _))))),?_⟩;have e1:=hv.length;have e2:=hw.length;have ln:∀ {H':Hp} {F:Int->Prop},Yk H H'->F (ds.length:Int)->tL g.K H' a F/\tL g.K H' b F:=λ{H' F} s f=>by
  rcases ht with ⟨h1,h2⟩ | ⟨h1,h2⟩
  ·exact ⟨⟨xs,.inl (au.of (s _ _ h1)),by rw [e1];exact f⟩,⟨ys,.inl (au.of (s _ _ h2)),by rw [e2];exact f⟩⟩
  ·exact ⟨⟨xs,.inr (aJ.of (s _ _ h1)),by rw [e1];exact f⟩,⟨ys,.inr (aJ.of (s _ _ h2)),by rw [e2];exact f⟩⟩
 walk_at "rd";refine (ln (.refl H) (ln (.refl H) (Xd (by simp) ?_)).2).1;refine YeN (n:=ds.length) (by omega) (λR r=>?_) (λi H' hi sm R r=>?_) λD H' sm hD=>?_
 ·walk_at "rd"
  exact (ln (.refl H) r).1
 ·obtain ⟨x,hx⟩:∃ x,xs[i]?=some x:=⟨_,Ε (by omega)⟩
  obtain ⟨y,hy⟩:∃ y,ys[i]?=some y:=⟨_,Ε (by omega)⟩;obtain ⟨d,hd1,hxd⟩:=hv.at hx;obtain ⟨d',hd2,hyd⟩:=hw.at hy
  cases hd1.symm.trans hd2
  have Nu:=Wi (Ξ hd1);have go:fZ m [x,y] H' (λx H1=>∃ i,x=V.bl i/\R (!i) H1) E0:=⟨x,y,d,rfl,hxd.keep sm,hyd.keep sm,by omega,λH2 s2=>⟨true,rfl,r H2 s2⟩⟩;rcases ht with ⟨h1,h2⟩ | ⟨h1,h2⟩
  ·refine .inl ?_
   walk_at "rd";refine ⟨xs,au.of (sm _ _ h1),x,Yo hx,.inl ?_⟩;walk_at "rd";exact ⟨ys,au.of (sm _ _ h2),y,Yo hy,go⟩
  ·refine .inr ?_
   walk_at "rd";refine ⟨xs,aJ.of (sm _ _ h1),x,Yo hx,.inr ?_⟩;walk_at "rd";exact ⟨ys,aJ.of (sm _ _ h2),y,Yo hy,go⟩
 ·refine ⟨by decide,λp hp=>?_⟩
  have s2:=Yk.aj hp (.lst []);exact ⟨_,.lst (au.of (s2 _ _ hD)) .nil,_,.lst (au.of Yb) .nil,by decide,q _ (sm.trans s2)⟩
theorem qX {k:Nat}  (R:g.Raw "_law_same" "_law_same" zO ["_law_one","_law_other"]) (Ou:g.Fn k "_law_rows_same" ["_law_one","_law_other"] (Ot m)) (cG:g.mg "bool"=none) (ZF:g.mg "isinstance"=none) (bx:g.mg "list"=none) (cF:g.mg "tuple"=none):g.Fn (k+1) "_law_same" ["_law_one","_law_other"] (fZ (m+1)):=by
 refine R.fn YbI (λvs H Q E h=>by obtain ⟨v,w,d,rfl,hv,hw,hd,q⟩:=h;rfl) λf_ cdv A outer s H vs Q E hr h=>?_
 obtain ⟨v,w,d,rfl,hv,hw,hd,q⟩:=h;refine ⟨_,(Yf (YF (X3 (YU ZF Xj (Ya (pv 0) (Ya (WT (T:="list") bx) Yd)))) (Yi (Yn (wV (YU ZF Xj (Ya (pv 1) (Ya (WT (T:="list") bx) Yd))) (wU (YA Ou hr (Ya (pv 0) (Ya (pv 1) Yd))))))) Yw) (Yf (YF (X3 (YU ZF Xj (Ya (pv 0) (Ya (WT (T:="tuple") cF) Yd)))) (Yi (Yn (wV (YU ZF Xj (Ya (pv 1) (Ya (WT (T:="tuple") cF) Yd))) (wU (YA Ou hr (Ya (pv 0) (Ya (pv 1) Yd))))))) Yw) (Yi (Yn (wV (WX YL (pv 0) (pv 1) (Ys _)) (wU (WX YL (YU ZF Xj (Ya (pv 0) (Ya (WT (T:="bool") cG) Yd))) (YU ZF Xj (Ya (pv 1) (Ya (WT (T:="bool") cG) Yd))) (Ys _)))))))),?_⟩;walk_at "rd";have ty:=hv.ty (K:=g.K);have ty2:=hw.ty (K:=g.K)
 cases d with
 | list ds =>
  obtain ⟨a,xs,rfl,h1,hl1,hx⟩:=hv.lB;obtain ⟨b,ys,rfl,h2,hl2,hy⟩:=hw.lB;have e1:=hx.length;exact ⟨_,rfl,_,ty,true,rfl,UR ⟨_,rfl,_,ty2,true,rfl,UR ⟨a,b,xs,ys,ds,rfl,.inl ⟨h1,h2⟩,hx,hy,by omega,by rw [aa] at hd;omega,q⟩⟩⟩
 | tuple ds =>
  obtain ⟨a,xs,rfl,h1,hl1,hx⟩:=hv.oN;obtain ⟨b,ys,rfl,h2,hl2,hy⟩:=hw.oN;have e1:=hx.length;exact ⟨_,rfl,_,ty,false,rfl,Xu ⟨_,rfl,_,ty,true,rfl,UR ⟨_,rfl,_,ty2,true,rfl,UR ⟨a,b,xs,ys,ds,rfl,.inr ⟨h1,h2⟩,hx,hy,by omega,by rw [aa] at hd;omega,q⟩⟩⟩⟩
 | int i =>
  cases hv.tX
  cases hw.tX
  refine ⟨_,rfl,_,ty,false,rfl,Xu ⟨_,rfl,_,ty,false,rfl,Xu ⟨rfl,?_⟩⟩⟩;rw [if_pos rfl];exact ⟨_,rfl,_,ty,false,rfl,_,rfl,_,ty,false,rfl,rfl,q H (.refl H)⟩
 | str x =>
  cases hv.tY.1
  cases hw.tY.1
  refine ⟨_,rfl,_,ty,false,rfl,Xu ⟨_,rfl,_,ty,false,rfl,Xu ⟨rfl,?_⟩⟩⟩;rw [if_pos rfl];exact ⟨_,rfl,_,ty,false,rfl,_,rfl,_,ty,false,rfl,rfl,q H (.refl H)⟩
 | bool b =>
  cases hv.yZ
  cases hw.yZ
  refine ⟨_,rfl,_,ty,false,rfl,Xu ⟨_,rfl,_,ty,false,rfl,Xu ⟨rfl,?_⟩⟩⟩;rw [if_pos rfl];exact ⟨_,rfl,_,ty,true,rfl,_,rfl,_,ty,true,rfl,rfl,q H (.refl H)⟩
 | none =>
  have e1:v = .non:=by obtain ⟨L,h⟩:=hv;cases h;rfl
  have e2:w = .non:=by obtain ⟨L,h⟩:=hw;cases h;rfl
  subst e1 e2;refine ⟨_,rfl,_,ty,false,rfl,Xu ⟨_,rfl,_,ty,false,rfl,Xu ⟨rfl,?_⟩⟩⟩;rw [if_pos rfl];exact ⟨_,rfl,_,ty,false,rfl,_,rfl,_,ty,false,rfl,rfl,q H (.refl H)⟩
 | dict xs=>obtain ⟨L,h⟩:=hv;cases h
noncomputable def jz (ds:List Γ) (d:Γ):Nat:=ds.findIdx λe=>e.eqv d
noncomputable def jH (ds:List Γ) (ns:List Int) (tn:Int) (d:Γ):Bool:=decide (ns.getD (11+jz ds d%(if 1<ns.length - 11 then ns.length - 11 else 1)) 0 / (1+((jz ds d / 52:Nat):Int))%2=tn)
theorem YgZ {ds:List Γ} {d e:Γ} {i:Nat} (hi:ds[i]?=some e) (h:i<=jz ds d) (c:e.eqv d=true):jz ds d=i:=by
 obtain ⟨hl,he⟩:=Η.mp hi;refine Nat.le_antisymm (Nat.le_of_not_lt λz=>?_) h;have:=List.not_of_lt_findIdx z;rw [he,c] at this
 exact absurd this (by simp)
theorem Yfy {ds:List Γ} {d e:Γ} {i:Nat} (hi:ds[i]?=some e) (h:i<=jz ds d) (c:¬ e.eqv d=true):i+1<=jz ds d:=by
 obtain ⟨hl,he⟩:=Η.mp hi;refine Nat.lt_of_le_of_ne h λz=>c ?_
 have hw:ds.findIdx (λe=>e.eqv d)<ds.length:=by rw [<- show jz ds d=ds.findIdx (λe=>e.eqv d) from rfl,<- z];exact hl
 have:=List.findIdx_getElem (w:=hw);have e2:ds[ds.findIdx (λe=>e.eqv d)]'hw=e:=by
  rw [<- he]
  congr 1
  exact z.symm
 rw [e2] at this
 exact this
theorem YhL {ds:List Γ} {d:Γ} (h:d∈ds) (c:d.eqv d=true):jz ds d<ds.length:=List.findIdx_lt_length_of_exists ⟨d,h,c⟩
def YhM (K:Θ) (fv vs:List V) (H:Hp) (Q:VK):Prop:=∃ (due bh:Addr) (us:List V) (ds:List Γ) (ns:List Int) (tn:Int) (v:V) (d:Γ),fv=[.int tn,.ref bh,.ref due]/\vs=[v]/\H due=some (.lst us)/\aY H us ds/\ds.length<=60/\au K H bh (ns.map V.int)/\ns.length<=63/\DV H v d/\(∀ e∈ds,e.depth<4)/\d∈ds/\∀ H',Yk H H'->Q (.bl (jH ds ns tn d)) H'
theorem Z2X {k:Nat}   {f_ c_:Addr} {doc pm ctv:Α} {l:Y4} (iQ:g.Fn k "_law_cell_at" ["_law_script","_law_k"] (dI g.K)) (ao:g.mg "len"=none) (cI:g.mg "max"=none) (Zg:g.mg "range"=none) (hl:l.map (·.1)=(["_law_turn","_law_script","_law_due"]:List Str)) (hnd:l.as.Nodup):bG g.P g.w g.K g.mg g.base cL (k+1) f_ (vp l.cl c_ doc pm ctv) ["_law_value"] (λvs H Q _=>qg H f_ c_ (vp l.cl c_ doc pm ctv) nD l/\(YhM g.K) l.vs vs (off H l.as) λv H'=>(∀ c∈l.as,H' c=none)->Q v (on H' H l.as)):=by
 refine YgA (N:=["_law_value","_law_k","_law_turn","_law_script","_law_due"]) (by rw [hl];exact JC) hnd (λvs H Q h=>by obtain ⟨due,bh,us,ds,ns,tn,v,d,Ov,rfl,hd,hus,hl,hS,hn,hv,Dc,hm,q⟩:=h;rfl) λA outer s H vs Q hr h=>?_
 obtain ⟨due,bh,us,ds,ns,tn,v,d,Ov,rfl,hd,hus,hl,hS,hn,hv,Dc,hm,q⟩:=h;refine ⟨_,(Yf (Xt ar rfl (Y2 rfl Zg (Ya (YU ao YM (Ya (pv 4) Yd)) Yd)) (Yu (i:=1) JC.nd rfl (.inl rfl)) (Yi (YF (Yq (yI hr.units) (Yr YQ (pv 4) (pv 1)) (pv 0) (Ys _)) (Yi (Yn (WX YL (Ym Xg (Ym YX (YA iQ hr (Ya (pv 3) (Ya (Ym YZ Yh (Ym Xg (pv 1) (YU cI (Q6 rfl) (Ya Yh (Ya (Ym Y3 (YU ao YM (Ya (pv 3) Yd)) Yh) Yd))))) Yd))) (Ym YZ Yh (Ym YX (pv 1) Yh))) Yh) (pv 2) (Ys _)))) Yw))) (Yi (Yn Uo))),?_⟩;rw [Ov]
 show (_:TS) _ [some v,none,some (.int tn),some (.ref bh),some (.ref due)] H
 refine Xq (n:=ds.length) (λi σ H'=>∃ o,σ=[some v,o,some (.int tn),some (.ref bh),some (.ref due)]/\H'=H/\i<=jz ds d) (λR r=>?_) (by omega) ⟨_,rfl,rfl,ν _⟩ ?_ ?_
 ·walk_at "rd"
  exact ⟨us,.inl (au.of hd),by rw [hus.length];exact r⟩
 ·rintro i σ H1 hi ⟨o,rfl,rfl,hp⟩
  walk_at "rd";have vP:=hus.length;have hu:us[i]?=some (us[i]'(by omega)):=Ε _;generalize us[i]'(by omega)=u at hu;obtain ⟨e,he,hue⟩:=hus.at hu;refine ⟨us,au.of hd,u,Yo hu,e,hue.den,d,hv.den,by have:=Dc e (Ξ he);omega,Xy (λc=>?_) (λc=>Yfy he hp c)⟩;have e1:=YgZ he hp c;refine ⟨_,.inl hS,?_,bh,ns,11+i%(if 1<ns.length - 11 then ns.length - 11 else 1),?_,hS,hn,YS (by decide) (by decide),_,rfl,YS (by omega) (by omega),by decide,?_⟩
  ·split<;>omega
  ·rw [Β]
   have e2:(if (ns.length:Int) - 11>1 then (ns.length:Int) - 11 else 1)=((if 1<ns.length - 11 then ns.length - 11 else 1:Nat):Int):=by
    split<;>split<;>omega
   rw [e2,<- Int.natCast_emod,eA];rfl
  ·have:=q H1 (.refl _)
   unfold jH at this;rw [e1] at this
   exact this
 ·rintro σ H1 ⟨o,rfl,rfl,hp⟩
  have:=YhL hm (PySem.SeqAt.eqv_refl d (Den.lay (K:=g.K) hv.den));omega
def Vp (H:Hp) (P:Addr):Prop:=H P=some (.bD #[])\/∃ c,H P=some (.bD #[rawInt 488,rawInt 4,.ref c])/\H c=some (jO c nD)
abbrev dY (x1 x2 x3:Addr) (due bh:Addr) (tn:Int):Y4:=[("_law_turn",x3,.int tn),("_law_script",x2,.ref bh),("_law_due",x1,.ref due)]
theorem YhN {H:Hp} {l:Y4} (hin:∀ p∈l,H p.2.1=some (Qk p.2.1 p.2.2)) {v:V} {d:Γ} (h:DV H v d):DV (off H l.as) v d:=by
 obtain ⟨L,h⟩:=h;exact ⟨L,h.cH (λa vs e=>Uw hin e) λa _ vs e=>X8 hin e (by intro φ z;cases z)⟩
theorem Yg0 {H:Hp} {l:Y4} (hin:∀ p∈l,H p.2.1=some (Qk p.2.1 p.2.2)) {v:List V} {d:List Γ} (h:aY H v d):aY (off H l.as) v d:=by
 obtain ⟨L,h⟩:=h;exact ⟨L,h.cH (λa vs e=>Uw hin e) λa _ vs e=>X8 hin e (by intro φ z;cases z)⟩
theorem Ow {H H':Hp} {f c:Addr} {fd:bt} {q:Str} {l:Y4} (h:qg H f c fd q l) (n:Yk H H'):qg H' f c fd q l:=⟨n _ _ h.1,n _ _ h.2.1,λp hp=>n _ _ (h.2.2 p hp)⟩
structure JO (g:Gx) (H:Hp) (due bh:Addr) (us:List V) (ds:List Γ) (ns:List Int):Prop where
 hd:H due=some (.lst us)
 hus:aY H us ds
 hl:ds.length<=60
 hS:au g.K H bh (ns.map V.int)
 hn:ns.length<=63
 dp:∀ e∈ds,e.depth<4
theorem Yfz {g:Gx} {H:Hp} {f c x1 x2 x3 due bh:Addr} {us:List V} {ds:List Γ} {ns:List Int} {tn:Int} {doc pm ctv:Α} (F0:g.Fn 29 "_law_cell_at" ["_law_script","_law_k"] (dI g.K)) (b1:g.mg "len"=none) (b2:g.mg "max"=none) (b3:g.mg "range"=none) (nd:(dY x1 x2 x3 due bh tn).as.Nodup)
  (h:qg H f c (vp (dY x1 x2 x3 due bh tn).cl c doc pm ctv) nD (dY x1 x2 x3 due bh tn)) (op:JO g H due bh us ds ns):jU g ds (jH ds ns tn) H f:=by
 have F:=Z2X (g:=g) (k:=29) (f_:=f) (c_:=c) (doc:=doc) (pm:=pm) (ctv:=ctv) (l:=dY x1 x2 x3 due bh tn) F0 b1 b2 b3 rfl nd;refine ⟨_,_,⟨F,λus hl=>?_⟩,h.1,λH1 v d Q s1 hv hm hq=>?_⟩
 ·match us,hl with
  | [_],_=>rfl
 ·have hin:=(Ow h s1).2.2
  have hS:au g.K (off H1 (dY x1 x2 x3 due bh tn).as) bh (ns.map V.int):=by
   rcases s1.seq op.hS with (z | ⟨o,z⟩) | z
   ·exact .inl (.inl (X8 hin z (by intro φ z;cases z)))
   ·exact .inl (.inr ⟨o,X8 hin z (by intro φ z;cases z)⟩)
   ·exact .inr z
  refine ⟨Ow h s1,due,bh,us,ds,ns,tn,v,d,rfl,rfl,X8 hin (s1 _ _ op.hd) (by intro φ z;cases z),Yg0 hin (op.hus.keep s1),op.hl,hS,op.hn,YhN hin hv,op.dp,hm,λH' s hc=>hq _ λb u e=>?_⟩;by_cases hb:b∈(dY x1 x2 x3 due bh tn).as
  ·rw [Ii hb];exact e
  ·rw [WL hb];exact s _ _ (by rw [Uv hb];exact e)
inductive j5 (g:Gx) (P:Addr) (vs:List V) (H:Hp) (Q:VK) (E_:XK):Prop
 | mk (due bh:Addr) (us:List V) (ds:List Γ) (ns:List Int) (tn:Int) (h0:vs=[.ref due,.ref bh,.int tn]) (h1:JO g H due bh us ds ns) (h2:Vp H P) (h3:∀ f H',jU g ds (jH ds ns tn) H' f->Vp H' P->(∀ a o,a≠P->H a=some o->H' a=some o)->Q (.ref f) H')
theorem JO.keep {g:Gx} {H H':Hp} {due bh:Addr} {us:List V} {ds:List Γ} {ns:List Int} (h:JO g H due bh us ds ns) (k:∀ a o,(∀ ps,o ≠ .bD ps)->H a=some o->H' a=some o):JO g H' due bh us ds ns:=by
 refine ⟨k _ _ (by intro ps z;cases z) h.hd,h.hus.kt k,h.hl,?_,h.hn,h.dp⟩;rcases h.hS with (z | ⟨o,z⟩) | z
 ·exact .inl (.inl (k _ _ (by intro ps z;cases z) z))
 ·exact .inl (.inr ⟨o,k _ _ (by intro ps z;cases z) z⟩)
 ·exact .inr z
theorem Ox {g:Gx} {H H3:Hp} {P f cf x1 x2 x3 due bh:Addr} {us:List V} {ds:List Γ} {ns:List Int} {tn:Int} {ps:Array Α} {doc pm ctv:Α} (F0:g.Fn 29 "_law_cell_at" ["_law_script","_law_k"] (dI g.K)) (b1:g.mg "len"=none) (b2:g.mg "max"=none) (b3:g.mg "range"=none) (nd:(dY x1 x2 x3 due bh tn).as.Nodup)
  (op:JO g H due bh us ds ns) (hT:H P=some (.bD ps)) (kf:H3 f=some (fD f (vp (dY x1 x2 x3 due bh tn).cl cf doc pm ctv))) (kcf:H3 cf=some (jO cf nD))
  (kT:H3 P=some (.bD #[rawInt 488,rawInt 4,.ref cf])) (keep:∀ a o,a≠P->H a=some o->H3 a=some o) (hc:∀ c∈(dY x1 x2 x3 due bh tn).as,H3 c=none) :
  jU g ds (jH ds ns tn) (lay H3 (dY x1 x2 x3 due bh tn)) f/\Vp (lay H3 (dY x1 x2 x3 due bh tn)) P/\∀ a o,a≠P->H a=some o->lay H3 (dY x1 x2 x3 due bh tn) a=some o:=by
 have hin:=Im (H:=H3) nd;have out:∀ {a:Addr} {o:HO},H3 a=some o->lay H3 (dY x1 x2 x3 due bh tn) a=some o:=λ{a o} e=>by
  rw [Vu λhm=>?_]
  ·exact e
  ·rw [hc a hm] at e;cases e
 have kk:∀ a o,a≠P->H a=some o->lay H3 (dY x1 x2 x3 due bh tn) a=some o:=λa o h1 h2=>out (keep a o h1 h2)
 exact ⟨Yfz F0 b1 b2 b3 nd ⟨out kf,out kcf,hin⟩ (op.keep λa o n e=>kk a o (Y8 e hT (n _)) e),.inr ⟨cf,out kT,out kcf⟩,kk⟩
theorem YbA {k:Nat}  {aX aM:Addr} (R:g.lA "_law_judge" "_law_judge" vg ["_law_due","_law_script","_law_turn"] aX) (bm:Bm g.mg g.base) (lU:i5 g.base aX aM) (iQ:g.Fn 29 "_law_cell_at" ["_law_script","_law_k"] (dI g.K)) (ao:g.mg "len"=none) (cI:g.mg "max"=none) (Zg:g.mg "range"=none):g.Fn (k+1) "_law_judge" ["_law_due","_law_script","_law_turn"] (j5 g aM):=by
 refine R.fnC Jp (λvs H Q E h=>by obtain ⟨due,bh,us,ds,ns,tn,rfl,op,ht,q⟩:=h;rfl) λf_ A outer s H vs Q E hr h=>?_
 obtain ⟨due,bh,us,ds,ns,tn,rfl,op,ht,q⟩:=h;refine ⟨_,(YgB (Yhm 3 bm lU rfl rfl Jp.nd rfl (.inl rfl) (Eq.trans rfl Ww) rfl rfl rfl (.inr rfl)) (Yhn (pv 3))),?_⟩;have v9:∀ n:Nat,(dY (n+1) (n+1+1) (n+1+1+1) due bh tn).as.Nodup:=λn=>by
  show ay [n+1+1+1,n+1+1,n+1]
  simp;omega
 rcases ht with ht | ⟨c1,ht,hc1⟩
 ·refine ⟨_,ht,trivial,.inl ⟨rfl,λf cf ff g1 g2 g3 ⟨doc,pm,ctv,e⟩=>?_⟩⟩
  subst e;have fP:=Yl ht g1;have cP:=Yl ht g2;refine ⟨dY (s.heap.objs.size+1) (s.heap.objs.size+1+1) (s.heap.objs.size+1+1+1) due bh tn,⟨v9 _,λz hz=>?_⟩,λhc=>?_⟩
  ·simp only [Ν,ς,or_false] at hz
   rcases hz with rfl | rfl | rfl
   ·exact ⟨2,rfl,rfl,rfl,rfl⟩
   ·exact ⟨1,rfl,rfl,rfl,rfl⟩
   ·exact ⟨0,rfl,rfl,rfl,rfl⟩
  ·obtain ⟨r1,r2,r3⟩:=Ox (H:=H) (P:=aM) (f:=f) (cf:=cf) iQ ao cI Zg (v9 _) op ht (by rw [Yb];rfl) (by rw [Ye (ai g3),Yb]) (by rw [Ye fP,Ye cP,Yb];rfl) (λa o h1 h2=>by rw [Ye (Yl h2 g1),Ye (Yl h2 g2),Ye h1];exact h2) hc
   exact q f _ r1 r2 r3
 ·refine ⟨_,ht,trivial,.inr ⟨c1,rfl,λf ff g1 ⟨doc,pm,ctv,e⟩=>?_⟩⟩
  subst e;refine ⟨dY (s.heap.objs.size+1) (s.heap.objs.size+1+1) (s.heap.objs.size+1+1+1) due bh tn,⟨v9 _,λz hz=>?_⟩,λhc=>?_⟩
  ·simp only [Ν,ς,or_false] at hz
   rcases hz with rfl | rfl | rfl
   ·exact ⟨2,rfl,rfl,rfl,rfl⟩
   ·exact ⟨1,rfl,rfl,rfl,rfl⟩
   ·exact ⟨0,rfl,rfl,rfl,rfl⟩
  ·obtain ⟨r1,r2,r3⟩:=Ox (H:=H) (P:=aM) (f:=f) (cf:=c1) iQ ao cI Zg (v9 _) op ht (by rw [Yb];rfl) (by rw [Ye (Yl hc1 g1)];exact hc1) (by rw [Ye (Yl ht g1)];exact ht) (λa o h1 h2=>by rw [Ye (Yl h2 g1)];exact h2) hc
   exact q f _ r1 r2 r3
noncomputable def W5:Nat->Nat
 | 0=>0
 | d+1=>1+5*W5 d
def jA (d:Nat) (x:Γ):Prop:=x.depth<=d/\L2.cnt x<=W5 d
theorem wj {d:Nat}:∀ {es:List Γ},(∀ e∈es,jA d e)->θ es<=d/\L2.Xh es<=es.length*W5 d
 | [],_=>⟨by rw [θ];omega,by rw [L2.Xh];omega⟩
 | e::es,h=>by
  have h1:=h e (.head _);have h2:=wj (es:=es) λx hx=>h x (.tail _ hx)
  have e1:=h1.1;have e2:=h1.2;rw [θ,L2.Xh,ω,iL];omega
theorem Oz {d:Nat} {es:List Γ} (h:∀ e∈es,jA d e) (hl:es.length<=5):jA (d+1) (.list es):=by
 have:=wj h;refine ⟨by rw [aa];omega,?_⟩;rw [L2.cnt,W5];have:es.length*W5 d<=5*W5 d:=dA _ hl;omega
theorem Q4 {d:Nat} {es:List Γ} (h:∀ e∈es,jA d e) (hl:es.length<=5):jA (d+1) (.tuple es):=by
 have:=wj h;refine ⟨by rw [aa];omega,?_⟩;rw [L2.cnt,W5];have:es.length*W5 d<=5*W5 d:=dA _ hl;omega
theorem Yg1 (d:Nat) (i:Int):jA d (.int i):=⟨by rw [aa];omega,by rw [L2.cnt];omega⟩
theorem Q5 (d:Nat) (x:Str):jA d (.str x):=⟨by rw [aa];omega,by rw [L2.cnt];omega⟩
theorem Yg2 {G:Nat->List Γ}:∀ {n:Nat} {es:List Γ},es∈cC G n->∀ e∈es,∃ f,f<=n/\e∈G f:=by
 intro n
 induction n using Nat.strongRecOn with
 | ind n ih =>
  intro es h
  cases n with
  | zero =>
   rw [VR] at h
   cases Φ.mp h
   intro e he
   cases he
  | succ n =>
   rw [XC,be] at h
   obtain ⟨f,hf,h⟩:=h;have:=bb.mp hf;rw [bf,be] at h
   obtain ⟨d,hd,h⟩:=h;obtain ⟨es',h',rfl⟩:=ac.mp h;intro e he;rcases Ν.mp he with rfl | he
   ·exact ⟨f,by omega,hd⟩
   ·obtain ⟨f',h1,h2⟩:=ih (n - f) (by omega) h' e he
    exact ⟨f',by omega,h2⟩
theorem YfA {bk:List Nat->Sh} {p q:Sh} {s:Nat} {es:List Γ} (h:es∈bR bk [p,q] s):∃ d1 d2 f t,es=[d1,d2]/\d1∈en bk p f/\d2∈en bk q t/\f<=s/\t<=s:=by
 rw [XX,be] at h
 obtain ⟨f,hf,h⟩:=h;have:=bb.mp hf;rw [bf,be] at h
 obtain ⟨d,hd,h⟩:=h;obtain ⟨es',h',rfl⟩:=ac.mp h;rw [XX,be] at h'
 obtain ⟨t,ht,h'⟩:=h';have:=bb.mp ht;rw [bf,be] at h'
 obtain ⟨d',hd',h'⟩:=h';obtain ⟨es2,h2,rfl⟩:=ac.mp h';have e:=UF h2
 cases es2 with
 | nil=>exact ⟨d,d',f,t,rfl,hd,hd',by omega,by omega⟩
 | cons _ _=>cases e
theorem OD {bk:List Nat->Sh} {sh:Sh} (h:fB sh) (d s:Nat):∀ x∈en bk sh s,jA d x:=by
 intro x hx
 cases h with
 | w lo span h =>
  rw [qx] at hx
  obtain ⟨r,_,rfl⟩:=ac.mp hx;exact Yg1 _ _
 | t sg _ h _ =>
  rw [VT] at hx
  obtain ⟨r,_,rfl⟩:=ac.mp hx;exact Q5 _ _
theorem Fi {nm:List Nat} {lf:Sh} (bY:fB lf) {d:Nat} {sh:Sh} (h:Dr nm d sh):∀ s,s<=5->∀ x∈en (aF [(nm,lf)]) sh s,jA d x:=by
 induction h with
 | lf h=>exact λs _=>OD h _ s
 | use =>
  intro s hs x hx
  cases s with
  | zero=>rw [Uz] at hx;cases hx
  | succ s =>
   rw [Ue,Oj] at hx
   exact OD bY _ s x hx
 | many _ ih =>
  intro s hs x hx;rw [Xs] at hx
  obtain ⟨es,he,rfl⟩:=ac.mp hx;have:=Q2 he;refine Oz (λe h=>?_) (by omega);obtain ⟨f,hf,h⟩:=Yg2 he e h;exact ih f (by omega) e h
 | @alike d p k h1 h3 _ ih =>
  intro s hs x hx;rw [Vc] at hx
  split at hx
  ·cases hx
  ·obtain ⟨e,he,rfl⟩:=ac.mp hx
   have:=dm s k;refine Oz (λe' h=>?_) (by rw [bn];omega);rw [(List.mem_replicate.mp h).2];exact ih (s / k - 1) (by omega) e he
 | row _ _ ih1 ih2 =>
  intro s hs x hx;rw [Vb] at hx
  obtain ⟨es,he,rfl⟩:=ac.mp hx;obtain ⟨d1,d2,f,t,rfl,h1,h2,hf,ht⟩:=YfA he;refine Q4 (λe h=>?_) (by simp);simp only [Ν,ς,or_false] at h;rcases h with rfl | rfl
  ·exact ih1 f (by omega) _ h1
  ·exact ih2 t (by omega) _ h2
 | pick _ _ _ _ ih1 ih2 =>
  intro s hs x hx;rw [WZ,XR,XR,cA,cM,a8] at hx
  rcases a6.mp hx with hx | hx
  ·obtain ⟨e,he,rfl⟩:=ac.mp hx
   refine Q4 (λe' h=>?_) (by simp);simp only [Ν,ς,or_false] at h;rcases h with rfl | rfl
   ·exact Q5 _ _
   ·exact ih1 s hs _ he
  ·obtain ⟨e,he,rfl⟩:=ac.mp hx
   refine Q4 (λe' h=>?_) (by simp);simp only [Ν,ς,or_false] at h;rcases h with rfl | rfl
   ·exact Q5 _ _
   ·exact ih2 s hs _ he
structure LQ (K:Θ) (H:Hp) (B a:Addr) (nm:List Nat) (lf sh:Sh) (n:Nat) (Du:Addr):Prop where
 lz:LZ K H B a nm lf sh
 hn:n<=5
 hc:(en (aF [(nm,lf)]) sh n).length<=40
 du:dz H Du (en (aF [(nm,lf)]) sh n)
 bk:WQ K H B [(nm,lf)]
theorem Kt.bO {H H':Hp} (k:Kt H H'):X7 H H':=λb xs h=>by
 rcases h with h | ⟨o,h⟩
 ·exact .inl (k _ _ (by intro ps z;cases z) h)
 ·exact .inr ⟨o,k _ _ (by intro ps z;cases z) h⟩
theorem OJ {H H':Hp} {P:Addr} {ps:Array Α} (hk:∀ a o,a≠P->H a=some o->H' a=some o) (hP:H P=some (.bD ps)):Kt H H':=λc o n e=>hk c o (Y8 e hP (n _)) e
theorem Vp.bD {H:Hp} {P:Addr} (h:Vp H P):∃ ps,H P=some (.bD ps):=by
 rcases h with h | ⟨c,h,_⟩
 ·exact ⟨_,h⟩
 ·exact ⟨_,h⟩
theorem Vp.keep {H H':Hp} {P:Addr} (h:Vp H P) (s:Yk H H'):Vp H' P:=by
 rcases h with h | ⟨c,h,h1⟩
 ·exact .inl (s _ _ h)
 ·exact .inr ⟨c,s _ _ h,s _ _ h1⟩
theorem WQ.kt {K:Θ} {H H':Hp} {B:Addr} {prs:aR} (h:WQ K H B prs) (k:Kt H H'):WQ K H' B prs:=by
 obtain ⟨vs,h1,h2,h3⟩:=h;exact ⟨vs,k _ _ (by intro ps z;cases z) h1,h2,λi v q e1 e2=>by
  obtain ⟨T,a,r1,r2,r3⟩:=h3 i v q e1 e2;exact ⟨T,a,r1,(Kt.bO k).sq r2,r3.bO (Kt.bO k)⟩⟩
theorem LQ.ask {K:Θ} {H H':Hp} {B a:Addr} {nm:List Nat} {lf sh:Sh} {n:Nat} {Du:Addr} (L:LQ K H B a nm lf sh n Du) (k:Kt H H'):uq K H' [(nm,lf)] B a sh n:=by
 have hc:=L.hc;refine ⟨L.bk.kt k,L.lz.hk.bO (Kt.bO k),Oo L.lz.dr,?_,YgX L.lz.dr (by decide),Oq L.lz.dr,L.hn,by omega⟩;refine ⟨by simp,λq hq=>?_,λq hq=>?_,λq hq=>?_⟩<;>(have e:=Φ.mp hq;subst e)
 ·exact (Vl L.lz.lf).1
 ·rw [(Vl (prs:=[]) L.lz.lf).2.1];decide
 ·rw [(Vl (prs:=[]) L.lz.lf).2.2];decide
theorem YfB {k:Nat}  {aX aM:Addr} (lV:g.gH k "sieved" ["book","shape","size","judge","most"] [.int 400] (jV g)) (iQ:g.Fn k "_law_cell_at" ["_law_script","_law_k"] (dI g.K)) (vY:g.Fn k "_law_name" ["_law_cell","_law_k"] (CP)) (gY:g.Fn k "_law_all" ["_law_book","_law_shape_here","_law_size_here"] (cU g.K 118)) (CV:g.Fn k "_law_leaf" ["_law_cell"] (vV g.K)) (vZ:g.Fn k "_law_shape" ["_law_script","_law_deep","_law_at","_law_name_here"] (vX g.K 3)) (pA:g.Fn k "_law_size" ["_law_book","_law_shape_here","_law_want","_law_most"] (lR g.K)) (v8:g.Fn k "_law_same" ["_law_one","_law_other"] (fZ 5)) (mL:g.Fn k "_law_judge" ["_law_due","_law_script","_law_turn"] (j5 g aM)) (hkc:30<=k) (ao:g.mg "len"=none) (Zg:g.mg "range"=none):V6 g k ["_law_script","_law_name_here","_law_book","_law_shape_here","_law_size_here","_law_due","_law_turn","_law_judge_here","_law_left"] "law" vh (Ux g.K [("_law_judge",aX,aM)]):=by
 refine λf_ cdv A outer s H vs Q E hr h=>?_
 obtain ⟨a,ns,rfl,hS,hl,ht,q⟩:=h;refine ⟨_,(Yf (Yp (i:=1) Wj.nd rfl (.inl rfl) (YA vY hr (Ya (YA iQ hr (Ya (pv 0) (Ya Yh Yd))) (Ya Yh Yd)))) (Yf (Yp (i:=2) Wj.nd rfl (.inl rfl) (Y0 (Ya (Xb (Ya (pv 1) (Ya (YA CV hr (Ya (YA iQ hr (Ya (pv 0) (Ya Yh Yd))) Yd)) Yd))) Yd (Wq _ _ _ _ _)))) (Yf (Yp (i:=3) Wj.nd rfl (.inl rfl) (YA vZ hr (Ya (pv 0) (Ya Yh (Ya Yh (Ya (pv 1) Yd)))))) (Yf (Yp (i:=4) Wj.nd rfl (.inl rfl) (YA pA hr (Ya (pv 2) (Ya (pv 3) (Ya (Ym Xg (YA iQ hr (Ya (pv 0) (Ya Yh Yd))) Yh) (Ya Yh Yd)))))) (Yf (Yp (i:=5) Wj.nd rfl (.inl rfl) (YA gY hr (Ya (pv 2) (Ya (pv 3) (Ya (pv 4) Yd))))) (Yf (Xt ar rfl (Y2 rfl Zg (Ya Yh Yd)) (Yu (i:=6) Wj.nd rfl (.inl rfl)) (Yf (Yp (i:=7) Wj.nd rfl (.inr rfl) (YA mL hr (Ya (pv 5) (Ya (pv 0) (Ya (pv 6) Yd))))) (Yf (HS (i:=8) (src:=[none,some 7]) (N':=(["_law_value","_law_judge_here"]:List Str)) (g:=Yv 0) Wj.nd rfl (.inl rfl) (.own (.cap (i:=7) rfl rfl (by first | exact .inl rfl | exact .inr rfl) .nil)) rfl (Xl (pv 5)) (λcl C s₀ H₀ fp pn=>(Yu (i:=0) (show ay (["_law_value","_law_judge_here"]:List Str) by decide +kernel) rfl (.inl rfl) (.inr rfl))) (λcl C s₀ H₀ fp pn=>(QF (X3 (@Ir _ (g) _ (30) _ _ _ _ _ _ 1 hr (Ya (pv 0) Yd) (by omega) (by rfl) (by rfl) (by first | exact .inl rfl | exact .inr (.inl rfl) | exact .inr (.inr rfl)) (by decide) (by decide) (by rfl) (by rfl))))) (λcl C s₀ H₀ fp pn=>(pv 0)) (by intro x hx;simp at hx;first | (subst hx;exact .inl rfl) | (rcases hx with rfl | rfl<;>exact .inl rfl) | (rcases hx with rfl | rfl | rfl<;>exact .inl rfl) | (rcases hx with rfl | rfl | rfl | rfl<;>exact .inl rfl) | (rcases hx with rfl | rfl | rfl | rfl | rfl<;>exact .inl rfl)) (by rfl) (by decide) (by decide +kernel) (by intro _;rfl) (by rfl) (by first | exact .inl rfl | exact .inr rfl | assumption)) (Yf (YF (wO (X3 (YA v8 hr (Ya (Yhp lV.d hr (Ya (pv 2) (Ya (pv 3) (Ya (pv 4) (Ya (pv 7) Yd)))) (by omega) (by rfl) (by rfl) (by decide) (by rfl) (by rfl)) (Ya (pv 8) Yd))))) (Yi (Yn Uo)) Yw) (Yi (YF (wO (X3 (YA v8 hr (Ya (YA lV.full hr (Ya (pv 2) (Ya (pv 3) (Ya (pv 4) (Ya (pv 7) (Ya (YU ao YM (Ya (pv 5) Yd)) Yd)))))) (Ya (pv 8) Yd))))) (Yi (Yn Uo)) Yw)))))) (Yi (Yn Uo)))))))),?_⟩;refine Rx (λσ H'=>∃ (B p:Addr) (nm:List Nat) (lf sh:Sh) (n:Nat) (Du:Addr),σ=[some (.ref a),some (.str (S nm)),some (.ref B),some (.ref p),some (.int n),some (.ref Du),none,none,none]/\Yk H H'/\LQ g.K H' B p nm lf sh n Du) ?_ (λN hN=>?_)
 rotate_left
 ·walk_at "rd"
  refine ⟨a,ns,7,rfl,hS,hl,_,0,rfl,?_⟩;have ok:=Vz (CN (ns.getD 7 0) 0);generalize jZ (ns.getD 7 0) 0=nm at ok ⊢;refine ⟨a,ns,8,rfl,hS,hl,_,rfl,λlp lf H1 bY s1 hk=>⟨few (by decide),λT hT=>⟨few (by decide),λB hB=>?_⟩⟩⟩;have sT:=Yk.aj hT (.tup [.str (S nm),.ref lp]);have sB:=Yk.aj hB (.lst [.ref T]);have s2:=s1.trans (sT.trans sB);refine ⟨a,ns,2,0,nm,rfl,s2.seq hS,hl,ok,by decide,by decide,λp sh H2 hd s3 hp=>⟨a,ns,9,rfl,(s2.trans s3).seq hS,hl,_,rfl,by decide,?_⟩⟩;obtain ⟨w,ew,hw⟩:=WY (ns.getD 9 0) (j:=6) (by decide);rw [ew];have lb:LB g.K H2 B nm lf:=⟨⟨T,lp,au.of (s3 _ _ Yb),aJ.of (s3 _ _ (sB _ _ Yb)),hk.keep ((sT.trans sB).trans s3)⟩,(Vl bY).1,Om bY bY,(Vl (prs:=[]) bY).2.2⟩;have lz:LZ g.K H2 B p nm lf sh:=⟨lb,bY,hp,hd⟩;have bka:∀ H',Yk _ H'->WQ g.K H' B [(nm,lf)]:=λH' (s:Yk _ H')=>⟨[.ref T],s _ _ Yb,rfl,λi v q h1 h2=>by
   match i,h1,h2 with
   | 0,h1,h2 =>
    cases Δ h1
    cases Δ h2
    exact ⟨T,lp,rfl,aJ.of (s _ _ (sB _ _ Yb)),hk.keep ((sT.trans sB).trans s)⟩
   | i+1,h1,_=>simp at h1⟩
  refine ⟨B,p,nm,lf,sh,w,rfl,lz,by omega,λn H3 s4 hn hc=>⟨B,p,nm,lf,sh,n,rfl,(lz.keep s4).la hn,λDu H4 s5 _ hdu=>hN _ _ ⟨B,p,nm,lf,sh,n,Du,rfl,(s2.trans s3).trans (s4.trans s5),(lz.keep s4).keep s5,hn,hc,hdu,bka _ (s3.trans (s4.trans s5))⟩⟩⟩
 rintro σ H1 ⟨B,p,nm,lf,sh,n,Du,rfl,s1,L⟩;obtain ⟨us,Dd,hus⟩:=L.du;have hcl:=L.hc;have vP:=hus.length;have due:=Fi L.lz.lf L.lz.dr n L.hn;have tJ:Vp H1 aM := .inl (s1 _ _ (ht _ (.head _)));walk_at "rd";refine Xq (n:=2) (λi σ H'=>∃ o6 o7 o8,σ=[some (.ref a),some (.str (S nm)),some (.ref B),some (.ref p),some (.int n),some (.ref Du),o6,o7,o8]/\(∀ x o,x≠aM->H1 x=some o->H' x=some o)/\Vp H' aM) (λR r=>by walk_at "rd";exact r) (by decide) ⟨_,_,_,rfl,λx o _ e=>e,tJ⟩ ?_ ?_
 ·rintro i σ H2 hi ⟨o6,o7,o8,rfl,k2,t2⟩
  obtain ⟨ps,hps⟩:=tJ.bD;have kt2:=OJ k2 hps;have jo:JO g H2 Du a us (en (aF [(nm,lf)]) sh n) ns:=JO.keep ⟨Dd,hus,by omega,s1.seq hS,hl,λe he=>by have:=(due e he).1;omega⟩ kt2;walk_at "rd";refine ⟨Du,a,us,_,ns,i,rfl,jo,t2,λf H3 jd t3 k3=>?_⟩;have k13:∀ x o,x≠aM->H1 x=some o->H3 x=some o:=λx o h1 h2=>k3 x o h1 (k2 x o h1 h2)
  have Df:=OJ k13 hps;have Dg:=hus.kt Df;have Ss:=Df _ _ (by intro ps z;cases z) Dd;generalize hp:jH (en (aF [(nm,lf)]) sh n) ns i=pj at jd;generalize hds:en (aF [(nm,lf)]) sh n=ds at *;refine Nv (K:=g.K) (xs:=us) (L:=ds) vP pj (λR r=>by walk_at "rd";exact r Du H3 (.refl _) (au.of Ss)) (by omega) ?_ (λx H' R r=>by walk_at "rd";exact r) ?_
  ·intro j v d H' hv hd sm R r
   obtain ⟨d',hd',hvd⟩:=Dg.at hv;rw [hd] at hd'
   cases Δ hd'
   obtain ⟨fd,sp,ok,hf,hj⟩:=jd;walk_at "rd";refine ⟨f,fd,_,sp,rfl,ok.1,ok.2,sm _ _ hf,?_⟩;walk_at "rd";exact ⟨sm _ _ hf,hj H' v d _ sm (hvd.keep sm) (Ξ hd) λaG s''=>⟨_,rfl,r aG s''⟩⟩
  ·intro D H4 hD s4 jP
   have kept:=Cy (p:=pj) (Dg.keep s4);have fl:=List.length_filter_le pj ds;have dd:∀ H',Yk H4 H'->DV H' (.ref D) (.list (ds.filter pj)):=λH' s => .lst (s _ _ jP) (by rw [kept.length];omega) (kept.keep s)
   have dep:(PyData.list (ds.filter pj)).depth<5:=by
    have:=(wj (es:=ds.filter pj) λe he=>due e (List.mem_filter.mp he).1).1;rw [aa];omega
   have d4:∀ d∈ds,d.depth<4:=λd hd=>by have:=(due d hd).1;omega
   have O1:Kt H1 H4:=λx o n e=>s4 _ _ (Df x o n e)
   refine ⟨[(nm,lf)],B,p,f,sh,n,400,pj,rfl,L.ask O1,by rw [hds];omega,by rw [hds];exact d4,by rw [hds];exact jd.same s4,λD2 cD H5 s5 h5 Dh=>?_⟩;rw [hds] at Dh
   refine ⟨_,_,_,rfl,.lst h5 (by rw [Dh.length];omega) Dh,dd _ s5,dep,λH6 s6=>⟨true,rfl,Xd (by decide) ?_⟩⟩;have wk:=s5.trans s6;have O2:Kt H1 H6:=λx o n e=>wk _ _ (O1 x o n e)
   refine ⟨us,.inl (au.of (O2 _ _ (by intro ps z;cases z) Dd)),?_⟩;rw [vP];refine ⟨[(nm,lf)],B,p,f,sh,n,_,pj,rfl,L.ask O2,by rw [hds];exact Int.le_refl _,by rw [hds];exact d4,by rw [hds];exact jd.same (s4.trans wk),λD3 gP H7 s7 h7 Di=>?_⟩;rw [hds] at Di
   refine ⟨_,_,_,rfl,.lst h7 (by rw [Di.length];omega) Di,dd _ (wk.trans s7),dep,λH8 s8=>⟨true,rfl,Xd (by decide) ?_⟩⟩;have O4:=s4.trans (wk.trans (s7.trans s8));exact ⟨λx o h1 h2=>O4 _ _ (k13 x o h1 h2),t3.keep O4⟩
 ·rintro σ H2 ⟨o6,o7,o8,rfl,k2,t2⟩
  walk_at "rd";exact q H2
theorem lW {α:Type} {us:List α} (h:us.length=1):∃ a0,us=[a0]:=by
 match us,h with
 | [a0],_=>exact ⟨_,rfl⟩
theorem cD {α:Type} {us:List α} (h:us.length=2):∃ a0 a1,us=[a0,a1]:=by
 match us,h with
 | [a0,a1],_=>exact ⟨_,_,rfl⟩
theorem gP {α:Type} {us:List α} (h:us.length=3):∃ a0 a1 a2,us=[a0,a1,a2]:=by
 match us,h with
 | [a0,a1,a2],_=>exact ⟨_,_,_,rfl⟩
theorem Dj {α:Type} {us:List α} (h:us.length=4):∃ a0 a1 a2 a3,us=[a0,a1,a2,a3]:=by
 match us,h with
 | [a0,a1,a2,a3],_=>exact ⟨_,_,_,_,rfl⟩
structure Top (K:Θ) (mg:Str->Option Α) (Z1:Addr) (Zl:Addr) (Z9:Addr) (Z3:Addr) (Z2:Addr) (Z5:Addr) (Z6:Addr) (Z4:Addr) (Z7:Addr) (Z0:Addr) (aX aM:Addr):Prop where
 ZP:∀ P w base,(Gx.mk P w K mg base).aD Z0 "count_at" "Maker.count_at" vm ["self","size"]
 ZM:∀ P w base,(Gx.mk P w K mg base).aD Z4 "count_at" "Maker.count_at" Jv ["self","size"]
 ZZ:∀ P w base,(Gx.mk P w K mg base).aD Z5 "count_at" "Maker.count_at" Jw ["self","size"]
 ZV:∀ P w base,(Gx.mk P w K mg base).aD Z2 "count_at" "Maker.count_at" Jx ["self","size"]
 ZN:∀ P w base,(Gx.mk P w K mg base).aD Z3 "count_at" "Maker.count_at" Jy ["self","size"]
 jB:∀ P w base,(Gx.mk P w K mg base).aD Z7 "count_at" "Maker.count_at" JB ["self","size"]
 ZQ:∀ P w base,(Gx.mk P w K mg base).aD Z1 "count_at" "Maker.count_at" Jz ["self","size"]
 Dk:∀ P w base,(Gx.mk P w K mg base).Raw "least_distance" "least_distance" zp ["size"]
 qY:∀ P w base,(Gx.mk P w K mg base).aD Z0 "reckoned" "WholeMaker.reckoned" zX ["self","size"]
 qZ:∀ P w base,(Gx.mk P w K mg base).aD Z4 "reckoned" "TextMaker.reckoned" z6 ["self","size"]
 Dl:∀ P w base,(Gx.mk P w K mg base).Raw "ways_of" "ways_of" zj ["blocks"]
 rm:∀ P w base,(Gx.mk P w K mg base).aD Z6 "blocks_at" "RowTable.blocks_at" Ac ["self","place","left"]
 rz:∀ P w base,(Gx.mk P w K mg base).aD Z6 "add_size" "RowTable.add_size" Aa ["self","size"]
 nR:∀ P w base,(Gx.mk P w K mg base).aD Z6 "ways_at" "RowTable.ways_at" z9 ["self","place","left"]
 rA:∀ P w base,(Gx.mk P w K mg base).aD Z5 "reckoned" "RowMaker.reckoned" Ae ["self","size"]
 rB:∀ P w base,(Gx.mk P w K mg base).aD Z7 "reckoned" "UseMaker.reckoned" Ax ["self","size"]
 rD:∀ P w base,(Gx.mk P w K mg base).aD Z1 "reckoned" "AlikeMaker.reckoned" Ar ["self","size"]
 rE:∀ P w base,(Gx.mk P w K mg base).aD Z3 "blocks_at" "ManyMaker.blocks_at" Al ["self","left"]
 rF:∀ P w base,(Gx.mk P w K mg base).aD Z3 "reckoned" "ManyMaker.reckoned" Am ["self","size"]
 rG:∀ P w base,(Gx.mk P w K mg base).aD Z2 "blocks_at" "PickMaker.blocks_at" Ah ["self","size"]
 rH:∀ P w base,(Gx.mk P w K mg base).aD Z2 "reckoned" "PickMaker.reckoned" Ai ["self","size"]
 Dm:∀ P w base,(Gx.mk P w K mg base).Raw "parts_of" "parts_of" zc ["shape"]
 Dn:∀ P w base,(Gx.mk P w K mg base).lu "Maker" "__init__" "Maker.__init__" Ba ["self"]
 Dp:∀ P w base,(Gx.mk P w K mg base).bH "WholeMaker" Z0 "WholeMaker.__init__" zW ["self","low","high"]
 Dq:∀ P w base,(Gx.mk P w K mg base).bH "TextMaker" Z4 "TextMaker.__init__" zZ ["self","signs"]
 Ds:∀ P w base,(Gx.mk P w K mg base).bH "ManyMaker" Z3 "ManyMaker.__init__" Ak ["self","part"]
 Dt:∀ P w base,(Gx.mk P w K mg base).bH "AlikeMaker" Z1 "AlikeMaker.__init__" Aq ["self","part","times"]
 Dv:∀ P w base,(Gx.mk P w K mg base).bH "PickMaker" Z2 "PickMaker.__init__" Ag ["self","marks","parts"]
 Dw:∀ P w base,(Gx.mk P w K mg base).bH "UseMaker" Z7 "UseMaker.__init__" Aw ["self"]
 Dy:∀ P w base,(Gx.mk P w K mg base).bH "RowTable" Z6 "RowTable.__init__" z8 ["self","parts"]
 Dz:∀ P w base,(Gx.mk P w K mg base).bH "RowMaker" Z5 "RowMaker.__init__" Ad ["self","parts"]
 DG:∀ P w base,(Gx.mk P w K mg base).bH "Lister" Z9 "Lister.__init__" zQ ["self","book"]
 DN:∀ P w base,(Gx.mk P w K mg base).Raw "shape_of" "shape_of" zf ["book","name"]
 rJ:∀ P w base,(Gx.mk P w K mg base).aD Z9 "new_maker" "Lister.new_maker" zU ["self","shape"]
 rK:∀ P w base,(Gx.mk P w K mg base).aD Z9 "add_use" "Lister.add_use" zT ["self","shape"]
 nW:∀ P w base,(Gx.mk P w K mg base).aD Z9 "maker_of" "Lister.maker_of" zR ["self","shape"]
 DP:∀ P w base,(Gx.mk P w K mg base).Raw "maker_for" "maker_for" zq ["book","shape"]
 DQ:∀ P w base,(Gx.mk P w K mg base).bH "Found" Zl "Found.__init__" Az ["self","place","choice","rest"]
 DR:∀ P w base,(Gx.mk P w K mg base).Raw "found_in" "found_in" zm ["blocks","number"]
 ZR:∀ P w base,(Gx.mk P w K mg base).aD Z0 "value_at" "WholeMaker.value_at" zY ["self","size","number"]
 jC:∀ P w base,(Gx.mk P w K mg base).aD Z7 "value_at" "UseMaker.value_at" Ay ["self","size","number"]
 ZW:∀ P w base,(Gx.mk P w K mg base).aD Z2 "value_at" "PickMaker.value_at" Aj ["self","size","number"]
 jD:∀ P w base,(Gx.mk P w K mg base).aD Z5 "value_at" "RowMaker.value_at" Af ["self","size","number"]
 ZX:∀ P w base,(Gx.mk P w K mg base).aD Z4 "value_at" "TextMaker.value_at" z7 ["self","size","number"]
 ZS:∀ P w base,(Gx.mk P w K mg base).aD Z1 "value_at" "AlikeMaker.value_at" Av ["self","size","number"]
 ZY:∀ P w base,(Gx.mk P w K mg base).aD Z3 "value_at" "ManyMaker.value_at" Ao ["self","size","number"]
 DW:∀ P w base,(Gx.mk P w K mg base).Raw "all_made" "all_made" zx ["maker","size"]
 DX:∀ P w base,(Gx.mk P w K mg base).Raw "refuse_too_many" "refuse_too_many" zu ["count","most"]
 DY:∀ P w base,(Gx.mk P w K mg base).gk "all_values" "all_values" zy ["book","shape","size","most"] [.int 400]
 lX:∀ P w base,(Gx.mk P w K mg base).Raw "copied" "copied" UU ["thing"]
 jJ:∀ P w base,(Gx.mk P w K mg base).Raw "holds" "holds" QP ["judge","value"]
 iY:∀ P w base,(Gx.mk P w K mg base).gk "sieved" "sieved" UV ["book","shape","size","judge","most"] [.int 400]
 Ea:∀ P w base,(Gx.mk P w K mg base).Raw "_law_texts" "_law_texts" zE ["_law_signs","_law_size_here"]
 Eb:∀ P w base,(Gx.mk P w K mg base).Raw "_law_numbers" "_law_numbers" zF ["_law_low","_law_high","_law_size_here"]
 nY:∀ P w base,(Gx.mk P w K mg base).Raw "_law_rows" "_law_rows" zG ["_law_book","_law_parts","_law_size_here"]
 nZ:∀ P w base,(Gx.mk P w K mg base).Raw "_law_lists" "_law_lists" zH ["_law_book","_law_part","_law_size_here"]
 lY:∀ P w base,(Gx.mk P w K mg base).Raw "_law_all" "_law_all" zJ ["_law_book","_law_shape_here","_law_size_here"]
 Ec:∀ P w base,(Gx.mk P w K mg base).Raw "_law_cell_at" "_law_cell_at" zA ["_law_script","_law_k"]
 Ed:∀ P w base,(Gx.mk P w K mg base).Raw "_law_name" "_law_name" zB ["_law_cell","_law_k"]
 Ef:∀ P w base,(Gx.mk P w K mg base).Raw "_law_leaf" "_law_leaf" zK ["_law_cell"]
 n6:∀ P w base,(Gx.mk P w K mg base).Raw "_law_shape" "_law_shape" zL ["_law_script","_law_deep","_law_at","_law_name_here"]
 Eh:∀ P w base,(Gx.mk P w K mg base).Raw "_law_size" "_law_size" zM ["_law_book","_law_shape_here","_law_want","_law_most"]
 lZ:∀ P w base,(Gx.mk P w K mg base).Raw "_law_rows_same" "_law_rows_same" zP ["_law_one","_law_other"]
 j6:∀ P w base,(Gx.mk P w K mg base).Raw "_law_same" "_law_same" zO ["_law_one","_law_other"]
 Ei:∀ P w base,(Gx.mk P w K mg base).lA "_law_judge" "_law_judge" vg ["_law_due","_law_script","_law_turn"] aX
 Za:Cls K Z1
 Zw:Yg K Z1 "counts"
 Zx:Yg K Z1 "part"
 Zk:Yg K Z1 "times"
 ZL:Cls K Zl
 ZG:Yg K Zl "place"
 ZI:Yg K Zl "choice"
 ZT:Yg K Zl "rest"
 ZH:Cls K Z9
 ZJ:Yg K Z9 "book"
 Zu:Yg K Z9 "makers"
 Zc:Cls K Z3
 Zq:Yg K Z3 "counts"
 Zt:Yg K Z3 "part"
 Zb:Cls K Z2
 Zp:Yg K Z2 "counts"
 Zs:Yg K Z2 "marks"
 Zm:Yg K Z2 "parts"
 Zf:Cls K Z5
 ZC:Yg K Z5 "counts"
 ZE:Yg K Z5 "parts"
 ZB:Yg K Z5 "table"
 Zj:Cls K Z6
 Zo:Yg K Z6 "parts"
 Zi:Yg K Z6 "ways"
 Zd:Cls K Z4
 Zz:Yg K Z4 "counts"
 Zr:Yg K Z4 "signs"
 Ze:Cls K Z7
 Zv:Yg K Z7 "counts"
 Zn:Yg K Z7 "named"
 Z8:Cls K Z0
 Zh:Yg K Z0 "counts"
 ZD:Yg K Z0 "low"
 Zy:Yg K Z0 "span"
 qF:∀ P w base,(Gx.mk P w K mg base).oK "OF_ONE_PART" ([.str "many",.str "rising",.str "unlike"])
 cG:mg "bool"=none
 bZ:mg "dict"=none
 nH:mg "enumerate"=none
 iw:mg "int"=none
 ZF:mg "isinstance"=none
 ao:mg "len"=none
 bx:mg "list"=none
 cI:mg "max"=none
 eG:mg "min"=none
 Zg:mg "range"=none
 jq:mg "sum"=none
 cF:mg "tuple"=none
theorem YfC {K:Θ} {mg:Str->Option Α} {Z1 Zl Z9 Z3 Z2 Z5 Z6 Z4 Z7 Z0:Addr} {aX aM:Addr}  (t:Top K mg Z1 Zl Z9 Z3 Z2 Z5 Z6 Z4 Z7 Z0 aX aM) (P:δ) (w:ι) (base:Heap) (hB:Bm mg base) (mj:i5 base aX aM) :
  V6 (Gx.mk P w K mg base) 120 ["_law_script","_law_name_here","_law_book","_law_shape_here","_law_size_here","_law_due","_law_turn","_law_judge_here","_law_left"] "law" vh (Ux K [("_law_judge",aX,aM)]):=by
 have wu:=Z5n (t.Dk P w base);have n8:=Ydi (t.Dl P w base) t.jq;have Z3Y:∀ i:Nat,((Gx.mk P w K mg base).Me (1+i+1) Z0 "count_at" ["self","size"] (ZO (Cs.mk Z0 Z4 Z5 Z6 Z2 Z3 Z1 Z7) 0 (i+1)))/\((Gx.mk P w K mg base).Me (1+i+1) Z4 "count_at" ["self","size"] (ZO (Cs.mk Z0 Z4 Z5 Z6 Z2 Z3 Z1 Z7) 1 (i+1)))/\((Gx.mk P w K mg base).Me (1+i+1) Z5 "count_at" ["self","size"] (ZO (Cs.mk Z0 Z4 Z5 Z6 Z2 Z3 Z1 Z7) 2 (i+1)))/\((Gx.mk P w K mg base).Me (1+i+1) Z2 "count_at" ["self","size"] (ZO (Cs.mk Z0 Z4 Z5 Z6 Z2 Z3 Z1 Z7) 3 (i+1)))/\((Gx.mk P w K mg base).Me (1+i+1) Z3 "count_at" ["self","size"] (ZO (Cs.mk Z0 Z4 Z5 Z6 Z2 Z3 Z1 Z7) 4 (i+1)))/\((Gx.mk P w K mg base).Me (1+i+1) Z1 "count_at" ["self","size"] (ZO (Cs.mk Z0 Z4 Z5 Z6 Z2 Z3 Z1 Z7) 6 (i+1)))/\((Gx.mk P w K mg base).Me (1+i+1) Z7 "count_at" ["self","size"] (ZO (Cs.mk Z0 Z4 Z5 Z6 Z2 Z3 Z1 Z7) 5 (i+1)))/\((Gx.mk P w K mg base).Me (1+i+1) Z6 "blocks_at" ["self","place","left"] (qy (Cs.mk Z0 Z4 Z5 Z6 Z2 Z3 Z1 Z7) (i+1)))/\((Gx.mk P w K mg base).Me (1+i+1) Z6 "add_size" ["self","size"] (jr (Cs.mk Z0 Z4 Z5 Z6 Z2 Z3 Z1 Z7) (i+1)))/\((Gx.mk P w K mg base).Me (1+i+1) Z6 "ways_at" ["self","place","left"] (fV (Cs.mk Z0 Z4 Z5 Z6 Z2 Z3 Z1 Z7) (i+1)))/\((Gx.mk P w K mg base).Me (1+i+1) Z2 "blocks_at" ["self","size"] (qC (Cs.mk Z0 Z4 Z5 Z6 Z2 Z3 Z1 Z7) (i+1)))/\((Gx.mk P w K mg base).Me (1+i+1) Z3 "blocks_at" ["self","left"] (qD (Cs.mk Z0 Z4 Z5 Z6 Z2 Z3 Z1 Z7) (i+1)))/\((Gx.mk P w K mg base).Me (1+i+1) Z0 "reckoned" ["self","size"] (aQ (Cs.mk Z0 Z4 Z5 Z6 Z2 Z3 Z1 Z7) 0 (i+1)))/\((Gx.mk P w K mg base).Me (1+i+1) Z4 "reckoned" ["self","size"] (aQ (Cs.mk Z0 Z4 Z5 Z6 Z2 Z3 Z1 Z7) 1 (i+1)))/\((Gx.mk P w K mg base).Me (1+i+1) Z5 "reckoned" ["self","size"] (aQ (Cs.mk Z0 Z4 Z5 Z6 Z2 Z3 Z1 Z7) 2 (i+1)))/\((Gx.mk P w K mg base).Me (1+i+1) Z3 "reckoned" ["self","size"] (aQ (Cs.mk Z0 Z4 Z5 Z6 Z2 Z3 Z1 Z7) 4 (i+1)))/\((Gx.mk P w K mg base).Me (1+i+1) Z1 "reckoned" ["self","size"] (aQ (Cs.mk Z0 Z4 Z5 Z6 Z2 Z3 Z1 Z7) 6 (i+1)))/\((Gx.mk P w K mg base).Me (1+i+1) Z7 "reckoned" ["self","size"] (aQ (Cs.mk Z0 Z4 Z5 Z6 Z2 Z3 Z1 Z7) 5 (i+1)))/\((Gx.mk P w K mg base).Me (1+i+1) Z2 "reckoned" ["self","size"] (aQ (Cs.mk Z0 Z4 Z5 Z6 Z2 Z3 Z1 Z7) 3 (i+1))):=by
  intro i
  induction i with
  | zero=>exact ⟨JW (m:=0) (k:=1) (Z1:=Z1) (Z3:=Z3) (Z2:=Z2) (Z5:=Z5) (Z6:=Z6) (Z4:=Z4) (Z7:=Z7) (Z0:=Z0) (t.ZP P w base) ((t.qY P w base).none (λ_ _ _ _ h=>Wz h)) t.ao t.Z8 t.Zh t.ZD t.Zy,JX (m:=0) (k:=1) (Z1:=Z1) (Z3:=Z3) (Z2:=Z2) (Z5:=Z5) (Z6:=Z6) (Z4:=Z4) (Z7:=Z7) (Z0:=Z0) (t.ZM P w base) ((t.qZ P w base).none (λ_ _ _ _ h=>Wz h)) t.ao t.Zd t.Zz t.Zr,JZ (m:=0) (k:=1) (Z1:=Z1) (Z3:=Z3) (Z2:=Z2) (Z5:=Z5) (Z6:=Z6) (Z4:=Z4) (Z7:=Z7) (Z0:=Z0) (t.ZZ P w base) ((t.rA P w base).none (λ_ _ _ _ h=>Wz h)) t.ao t.Zf t.ZC t.ZE t.ZB,J0 (m:=0) (k:=1) (Z1:=Z1) (Z3:=Z3) (Z2:=Z2) (Z5:=Z5) (Z6:=Z6) (Z4:=Z4) (Z7:=Z7) (Z0:=Z0) (t.ZV P w base) ((t.rH P w base).none (λ_ _ _ _ h=>Wz h)) t.ao t.Zb t.Zp t.Zs t.Zm,J1 (m:=0) (k:=1) (Z1:=Z1) (Z3:=Z3) (Z2:=Z2) (Z5:=Z5) (Z6:=Z6) (Z4:=Z4) (Z7:=Z7) (Z0:=Z0) (t.ZN P w base) ((t.rF P w base).none (λ_ _ _ _ h=>Wz h)) t.ao t.Zc t.Zq t.Zt,J3 (m:=0) (k:=1) (Z1:=Z1) (Z3:=Z3) (Z2:=Z2) (Z5:=Z5) (Z6:=Z6) (Z4:=Z4) (Z7:=Z7) (Z0:=Z0) (t.ZQ P w base) ((t.rD P w base).none (λ_ _ _ _ h=>Wz h)) t.ao t.Za t.Zw t.Zx t.Zk,J2 (m:=0) (k:=1) (Z1:=Z1) (Z3:=Z3) (Z2:=Z2) (Z5:=Z5) (Z6:=Z6) (Z4:=Z4) (Z7:=Z7) (Z0:=Z0) (t.jB P w base) ((t.rB P w base).none (λ_ _ _ _ h=>Wz h)) t.ao t.Ze t.Zv t.Zn,J8 (m:=0) (k:=1) (Z1:=Z1) (Z3:=Z3) (Z2:=Z2) (Z5:=Z5) (Z6:=Z6) (Z4:=Z4) (Z7:=Z7) (Z0:=Z0) (t.rm P w base) ((t.nR P w base).none (λ_ _ _ _ h=>J6 h)) ((Yc ((t.ZP P w base).none (λ_ _ _ _ h=>ZA h)) t.Z8 (Yc ((t.ZM P w base).none (λ_ _ _ _ h=>ZA h)) t.Zd (Yc ((t.ZZ P w base).none (λ_ _ _ _ h=>ZA h)) t.Zf (Yc ((t.ZV P w base).none (λ_ _ _ _ h=>ZA h)) t.Zb (Yc ((t.ZN P w base).none (λ_ _ _ _ h=>ZA h)) t.Zc (Yc ((t.ZQ P w base).none (λ_ _ _ _ h=>ZA h)) t.Za (Yc ((t.jB P w base).none (λ_ _ _ _ h=>ZA h)) t.Ze YR)))))))) t.Zg t.Zj t.Zo t.Zi,Ka (m:=0) (k:=1) (Z1:=Z1) (Z3:=Z3) (Z2:=Z2) (Z5:=Z5) (Z6:=Z6) (Z4:=Z4) (Z7:=Z7) (Z0:=Z0) (t.rz P w base) (n8.mono (by omega)) ((t.rm P w base).none (λ_ _ _ _ h=>Ydj h)) t.ao t.Zg t.Zj t.Zo t.Zi,Kd (m:=0) (k:=1) (Z1:=Z1) (Z3:=Z3) (Z2:=Z2) (Z5:=Z5) (Z6:=Z6) (Z4:=Z4) (Z7:=Z7) (Z0:=Z0) (t.nR P w base) ((t.rz P w base).none (λ_ _ _ _ h=>Yhy h)) t.ao t.Zj t.Zo t.Zi,Kw (m:=0) (k:=1) (Z1:=Z1) (Z3:=Z3) (Z2:=Z2) (Z5:=Z5) (Z6:=Z6) (Z4:=Z4) (Z7:=Z7) (Z0:=Z0) (t.rG P w base) ((Yc ((t.ZP P w base).none (λ_ _ _ _ h=>ZA h)) t.Z8 (Yc ((t.ZM P w base).none (λ_ _ _ _ h=>ZA h)) t.Zd (Yc ((t.ZZ P w base).none (λ_ _ _ _ h=>ZA h)) t.Zf (Yc ((t.ZV P w base).none (λ_ _ _ _ h=>ZA h)) t.Zb (Yc ((t.ZN P w base).none (λ_ _ _ _ h=>ZA h)) t.Zc (Yc ((t.ZQ P w base).none (λ_ _ _ _ h=>ZA h)) t.Za (Yc ((t.jB P w base).none (λ_ _ _ _ h=>ZA h)) t.Ze YR)))))))) t.Zb t.Zp t.Zs t.Zm,Kr (m:=0) (k:=1) (Z1:=Z1) (Z3:=Z3) (Z2:=Z2) (Z5:=Z5) (Z6:=Z6) (Z4:=Z4) (Z7:=Z7) (Z0:=Z0) (t.rE P w base) ((t.ZN P w base).none (λ_ _ _ _ h=>ZA h)) ((Yc ((t.ZP P w base).none (λ_ _ _ _ h=>ZA h)) t.Z8 (Yc ((t.ZM P w base).none (λ_ _ _ _ h=>ZA h)) t.Zd (Yc ((t.ZZ P w base).none (λ_ _ _ _ h=>ZA h)) t.Zf (Yc ((t.ZV P w base).none (λ_ _ _ _ h=>ZA h)) t.Zb (Yc ((t.ZN P w base).none (λ_ _ _ _ h=>ZA h)) t.Zc (Yc ((t.ZQ P w base).none (λ_ _ _ _ h=>ZA h)) t.Za (Yc ((t.jB P w base).none (λ_ _ _ _ h=>ZA h)) t.Ze YR)))))))) t.Zg t.Zc t.Zq t.Zt,J4 (m:=0) (k:=1) (Z1:=Z1) (Z3:=Z3) (Z2:=Z2) (Z5:=Z5) (Z6:=Z6) (Z4:=Z4) (Z7:=Z7) (Z0:=Z0) (t.qY P w base) (wu.mono (by omega)) t.cI t.eG t.Z8 t.Zh t.ZD t.Zy,J5 (m:=0) (k:=1) (Z1:=Z1) (Z3:=Z3) (Z2:=Z2) (Z5:=Z5) (Z6:=Z6) (Z4:=Z4) (Z7:=Z7) (Z0:=Z0) (t.qZ P w base) ((t.ZM P w base).none (λ_ _ _ _ h=>ZA h)) t.ao t.Zd t.Zz t.Zr,Kf (m:=0) (k:=1) (Z1:=Z1) (Z3:=Z3) (Z2:=Z2) (Z5:=Z5) (Z6:=Z6) (Z4:=Z4) (Z7:=Z7) (Z0:=Z0) (t.rA P w base) ((t.nR P w base).none (λ_ _ _ _ h=>J6 h)) t.Zf t.ZC t.ZE t.ZB t.Zj t.Zo t.Zi,Kv (m:=0) (k:=1) (Z1:=Z1) (Z3:=Z3) (Z2:=Z2) (Z5:=Z5) (Z6:=Z6) (Z4:=Z4) (Z7:=Z7) (Z0:=Z0) (t.rF P w base) (n8.mono (by omega)) ((t.rE P w base).none (λ_ _ _ _ h=>Ydm h)) t.Zc t.Zq t.Zt,Kq (m:=0) (k:=1) (Z1:=Z1) (Z3:=Z3) (Z2:=Z2) (Z5:=Z5) (Z6:=Z6) (Z4:=Z4) (Z7:=Z7) (Z0:=Z0) (t.rD P w base) ((Yc ((t.ZP P w base).none (λ_ _ _ _ h=>ZA h)) t.Z8 (Yc ((t.ZM P w base).none (λ_ _ _ _ h=>ZA h)) t.Zd (Yc ((t.ZZ P w base).none (λ_ _ _ _ h=>ZA h)) t.Zf (Yc ((t.ZV P w base).none (λ_ _ _ _ h=>ZA h)) t.Zb (Yc ((t.ZN P w base).none (λ_ _ _ _ h=>ZA h)) t.Zc (Yc ((t.ZQ P w base).none (λ_ _ _ _ h=>ZA h)) t.Za (Yc ((t.jB P w base).none (λ_ _ _ _ h=>ZA h)) t.Ze YR)))))))) t.Za t.Zw t.Zx t.Zk,Kp (m:=0) (k:=1) (Z1:=Z1) (Z3:=Z3) (Z2:=Z2) (Z5:=Z5) (Z6:=Z6) (Z4:=Z4) (Z7:=Z7) (Z0:=Z0) (t.rB P w base) ((Yc ((t.ZP P w base).none (λ_ _ _ _ h=>ZA h)) t.Z8 (Yc ((t.ZM P w base).none (λ_ _ _ _ h=>ZA h)) t.Zd (Yc ((t.ZZ P w base).none (λ_ _ _ _ h=>ZA h)) t.Zf (Yc ((t.ZV P w base).none (λ_ _ _ _ h=>ZA h)) t.Zb (Yc ((t.ZN P w base).none (λ_ _ _ _ h=>ZA h)) t.Zc (Yc ((t.ZQ P w base).none (λ_ _ _ _ h=>ZA h)) t.Za (Yc ((t.jB P w base).none (λ_ _ _ _ h=>ZA h)) t.Ze YR)))))))) t.Ze t.Zv t.Zn,Ky (m:=0) (k:=1) (Z1:=Z1) (Z3:=Z3) (Z2:=Z2) (Z5:=Z5) (Z6:=Z6) (Z4:=Z4) (Z7:=Z7) (Z0:=Z0) (t.rH P w base) (n8.mono (by omega)) ((t.rG P w base).none (λ_ _ _ _ h=>Ydl h)) t.Zb t.Zp t.Zs t.Zm⟩
  | succ i ih =>
   obtain ⟨rM,oh,rN,rO,ou,rP,rQ,Z4F,Z4Y,O5,Z3Z,Z40,Z41,Z4G,Z4Z,Z4H,Z42,Z50,Z4I⟩:=ih;exact ⟨JW (m:=i+1) (k:=1+i+1) (Z1:=Z1) (Z3:=Z3) (Z2:=Z2) (Z5:=Z5) (Z6:=Z6) (Z4:=Z4) (Z7:=Z7) (Z0:=Z0) (t.ZP P w base) Z41 t.ao t.Z8 t.Zh t.ZD t.Zy,JX (m:=i+1) (k:=1+i+1) (Z1:=Z1) (Z3:=Z3) (Z2:=Z2) (Z5:=Z5) (Z6:=Z6) (Z4:=Z4) (Z7:=Z7) (Z0:=Z0) (t.ZM P w base) Z4G t.ao t.Zd t.Zz t.Zr,JZ (m:=i+1) (k:=1+i+1) (Z1:=Z1) (Z3:=Z3) (Z2:=Z2) (Z5:=Z5) (Z6:=Z6) (Z4:=Z4) (Z7:=Z7) (Z0:=Z0) (t.ZZ P w base) Z4Z t.ao t.Zf t.ZC t.ZE t.ZB,J0 (m:=i+1) (k:=1+i+1) (Z1:=Z1) (Z3:=Z3) (Z2:=Z2) (Z5:=Z5) (Z6:=Z6) (Z4:=Z4) (Z7:=Z7) (Z0:=Z0) (t.ZV P w base) Z4I t.ao t.Zb t.Zp t.Zs t.Zm,J1 (m:=i+1) (k:=1+i+1) (Z1:=Z1) (Z3:=Z3) (Z2:=Z2) (Z5:=Z5) (Z6:=Z6) (Z4:=Z4) (Z7:=Z7) (Z0:=Z0) (t.ZN P w base) Z4H t.ao t.Zc t.Zq t.Zt,J3 (m:=i+1) (k:=1+i+1) (Z1:=Z1) (Z3:=Z3) (Z2:=Z2) (Z5:=Z5) (Z6:=Z6) (Z4:=Z4) (Z7:=Z7) (Z0:=Z0) (t.ZQ P w base) Z42 t.ao t.Za t.Zw t.Zx t.Zk,J2 (m:=i+1) (k:=1+i+1) (Z1:=Z1) (Z3:=Z3) (Z2:=Z2) (Z5:=Z5) (Z6:=Z6) (Z4:=Z4) (Z7:=Z7) (Z0:=Z0) (t.jB P w base) Z50 t.ao t.Ze t.Zv t.Zn,J8 (m:=i+1) (k:=1+i+1) (Z1:=Z1) (Z3:=Z3) (Z2:=Z2) (Z5:=Z5) (Z6:=Z6) (Z4:=Z4) (Z7:=Z7) (Z0:=Z0) (t.rm P w base) O5 ((Yc rM t.Z8 (Yc oh t.Zd (Yc rN t.Zf (Yc rO t.Zb (Yc ou t.Zc (Yc rP t.Za (Yc rQ t.Ze YR)))))))) t.Zg t.Zj t.Zo t.Zi,Ka (m:=i+1) (k:=1+i+1) (Z1:=Z1) (Z3:=Z3) (Z2:=Z2) (Z5:=Z5) (Z6:=Z6) (Z4:=Z4) (Z7:=Z7) (Z0:=Z0) (t.rz P w base) (n8.mono (by omega)) Z4F t.ao t.Zg t.Zj t.Zo t.Zi,Kd (m:=i+1) (k:=1+i+1) (Z1:=Z1) (Z3:=Z3) (Z2:=Z2) (Z5:=Z5) (Z6:=Z6) (Z4:=Z4) (Z7:=Z7) (Z0:=Z0) (t.nR P w base) Z4Y t.ao t.Zj t.Zo t.Zi,Kw (m:=i+1) (k:=1+i+1) (Z1:=Z1) (Z3:=Z3) (Z2:=Z2) (Z5:=Z5) (Z6:=Z6) (Z4:=Z4) (Z7:=Z7) (Z0:=Z0) (t.rG P w base) ((Yc rM t.Z8 (Yc oh t.Zd (Yc rN t.Zf (Yc rO t.Zb (Yc ou t.Zc (Yc rP t.Za (Yc rQ t.Ze YR)))))))) t.Zb t.Zp t.Zs t.Zm,Kr (m:=i+1) (k:=1+i+1) (Z1:=Z1) (Z3:=Z3) (Z2:=Z2) (Z5:=Z5) (Z6:=Z6) (Z4:=Z4) (Z7:=Z7) (Z0:=Z0) (t.rE P w base) ou ((Yc rM t.Z8 (Yc oh t.Zd (Yc rN t.Zf (Yc rO t.Zb (Yc ou t.Zc (Yc rP t.Za (Yc rQ t.Ze YR)))))))) t.Zg t.Zc t.Zq t.Zt,J4 (m:=i+1) (k:=1+i+1) (Z1:=Z1) (Z3:=Z3) (Z2:=Z2) (Z5:=Z5) (Z6:=Z6) (Z4:=Z4) (Z7:=Z7) (Z0:=Z0) (t.qY P w base) (wu.mono (by omega)) t.cI t.eG t.Z8 t.Zh t.ZD t.Zy,J5 (m:=i+1) (k:=1+i+1) (Z1:=Z1) (Z3:=Z3) (Z2:=Z2) (Z5:=Z5) (Z6:=Z6) (Z4:=Z4) (Z7:=Z7) (Z0:=Z0) (t.qZ P w base) oh t.ao t.Zd t.Zz t.Zr,Kf (m:=i+1) (k:=1+i+1) (Z1:=Z1) (Z3:=Z3) (Z2:=Z2) (Z5:=Z5) (Z6:=Z6) (Z4:=Z4) (Z7:=Z7) (Z0:=Z0) (t.rA P w base) O5 t.Zf t.ZC t.ZE t.ZB t.Zj t.Zo t.Zi,Kv (m:=i+1) (k:=1+i+1) (Z1:=Z1) (Z3:=Z3) (Z2:=Z2) (Z5:=Z5) (Z6:=Z6) (Z4:=Z4) (Z7:=Z7) (Z0:=Z0) (t.rF P w base) (n8.mono (by omega)) Z40 t.Zc t.Zq t.Zt,Kq (m:=i+1) (k:=1+i+1) (Z1:=Z1) (Z3:=Z3) (Z2:=Z2) (Z5:=Z5) (Z6:=Z6) (Z4:=Z4) (Z7:=Z7) (Z0:=Z0) (t.rD P w base) ((Yc rM t.Z8 (Yc oh t.Zd (Yc rN t.Zf (Yc rO t.Zb (Yc ou t.Zc (Yc rP t.Za (Yc rQ t.Ze YR)))))))) t.Za t.Zw t.Zx t.Zk,Kp (m:=i+1) (k:=1+i+1) (Z1:=Z1) (Z3:=Z3) (Z2:=Z2) (Z5:=Z5) (Z6:=Z6) (Z4:=Z4) (Z7:=Z7) (Z0:=Z0) (t.rB P w base) ((Yc rM t.Z8 (Yc oh t.Zd (Yc rN t.Zf (Yc rO t.Zb (Yc ou t.Zc (Yc rP t.Za (Yc rQ t.Ze YR)))))))) t.Ze t.Zv t.Zn,Ky (m:=i+1) (k:=1+i+1) (Z1:=Z1) (Z3:=Z3) (Z2:=Z2) (Z5:=Z5) (Z6:=Z6) (Z4:=Z4) (Z7:=Z7) (Z0:=Z0) (t.rH P w base) (n8.mono (by omega)) Z3Z t.Zb t.Zp t.Zs t.Zm⟩
 obtain ⟨O6,O7,O8,O9,Pa,Pb,Pg,Ph,pQ,rR,Pj,Pk,oA,pB,pR,pC,oE,pU,pD⟩:=Z3Y 90;have Pn:=YbJ (t.Dm P w base) t.bx (t.qF P w base);have mq:=Z5o (Z1:=Z1) (Z3:=Z3) (Z2:=Z2) (Z5:=Z5) (Z6:=Z6) (Z4:=Z4) (Z7:=Z7) (Z0:=Z0) (t.Dn P w base) t.Za t.Zw t.Zx t.Zk t.Zc t.Zq t.Zt t.Zb t.Zp t.Zs t.Zm t.Zf t.ZC t.ZE t.ZB t.Zd t.Zz t.Zr t.Ze t.Zv t.Zn t.Z8 t.Zh t.ZD t.Zy;have Pq:=Z3F (k:=1) (Z1:=Z1) (Z3:=Z3) (Z2:=Z2) (Z5:=Z5) (Z6:=Z6) (Z4:=Z4) (Z7:=Z7) (Z0:=Z0) (t.Dp P w base) (mq.mono (by decide)) t.Z8 t.Zh t.ZD t.Zy;have Pr:=Z3T (k:=1) (Z1:=Z1) (Z3:=Z3) (Z2:=Z2) (Z5:=Z5) (Z6:=Z6) (Z4:=Z4) (Z7:=Z7) (Z0:=Z0) (t.Dq P w base) (mq.mono (by decide)) t.Zd t.Zz t.Zr;have Pu:=Z3U (k:=1) (Z1:=Z1) (Z3:=Z3) (Z2:=Z2) (Z5:=Z5) (Z6:=Z6) (Z4:=Z4) (Z7:=Z7) (Z0:=Z0) (t.Ds P w base) (mq.mono (by decide)) t.Zc t.Zq t.Zt;have Px:=Z3G (k:=1) (Z1:=Z1) (Z3:=Z3) (Z2:=Z2) (Z5:=Z5) (Z6:=Z6) (Z4:=Z4) (Z7:=Z7) (Z0:=Z0) (t.Dt P w base) (mq.mono (by decide)) t.Za t.Zw t.Zx t.Zk;have Py:=Z3V (k:=1) (Z1:=Z1) (Z3:=Z3) (Z2:=Z2) (Z5:=Z5) (Z6:=Z6) (Z4:=Z4) (Z7:=Z7) (Z0:=Z0) (t.Dv P w base) (mq.mono (by decide)) t.Zb t.Zp t.Zs t.Zm;have Pz:=Z4p (k:=1) (Z1:=Z1) (Z3:=Z3) (Z2:=Z2) (Z5:=Z5) (Z6:=Z6) (Z4:=Z4) (Z7:=Z7) (Z0:=Z0) (t.Dw P w base) (mq.mono (by decide)) t.Ze t.Zv t.Zn;have Z51:=Z4q (Z1:=Z1) (Z3:=Z3) (Z2:=Z2) (Z5:=Z5) (Z6:=Z6) (Z4:=Z4) (Z7:=Z7) (Z0:=Z0) (t.Dy P w base) t.ao t.Zg t.Zj t.Zo t.Zi;have PB:=Z4r (k:=2) (Z1:=Z1) (Z3:=Z3) (Z2:=Z2) (Z5:=Z5) (Z6:=Z6) (Z4:=Z4) (Z7:=Z7) (Z0:=Z0) (t.Dz P w base) Z51 (by decide) (mq.mono (by decide)) t.Zf t.ZC t.ZE t.ZB;have Z5s:=Z5a (Z9:=Z9) (t.DG P w base) t.ZH t.ZJ t.Zu;have PJ:=YbK (t.DN P w base);have Z5h:∀ i:Nat,((Gx.mk P w K mg base).Me (4+i+1) Z9 "new_maker" ["self","shape"] (ju (Gx.mk P w K mg base).P (Gx.mk P w K mg base).w (Gx.mk P w K mg base).K (Cs.mk Z0 Z4 Z5 Z6 Z2 Z3 Z1 Z7) Z9 (i+1)))/\((Gx.mk P w K mg base).Me (4+i+1) Z9 "add_use" ["self","shape"] (vI (Gx.mk P w K mg base).P (Gx.mk P w K mg base).w (Gx.mk P w K mg base).K (Cs.mk Z0 Z4 Z5 Z6 Z2 Z3 Z1 Z7) Z9 (i+1)))/\((Gx.mk P w K mg base).Me (4+i+1) Z9 "maker_of" ["self","shape"] (lH (Gx.mk P w K mg base).P (Gx.mk P w K mg base).w (Gx.mk P w K mg base).K (Cs.mk Z0 Z4 Z5 Z6 Z2 Z3 Z1 Z7) Z9 (i+1))):=by
  intro i
  induction i with
  | zero=>exact ⟨Mg (m:=0) (k:=4) (Z1:=Z1) (Z9:=Z9) (Z3:=Z3) (Z2:=Z2) (Z5:=Z5) (Z6:=Z6) (Z4:=Z4) (Z7:=Z7) (Z0:=Z0) (t.rJ P w base) (Pn.mono (by omega)) ((t.nW P w base).none (λ_ _ _ _ h=>Lz h)) Pq (by omega) Pr (by omega) PB (by omega) Py (by omega) Pu (by omega) Px (by omega) t.ZH t.ZJ t.Zu,Mp (m:=0) (k:=4) (Z1:=Z1) (Z9:=Z9) (Z3:=Z3) (Z2:=Z2) (Z5:=Z5) (Z6:=Z6) (Z4:=Z4) (Z7:=Z7) (Z0:=Z0) (t.rK P w base) (PJ.mono (by omega)) ((t.nW P w base).none (λ_ _ _ _ h=>Lz h)) Pz (by omega) t.ZH t.ZJ t.Zu t.Ze t.Zv t.Zn,Ms (m:=0) (k:=4) (Z1:=Z1) (Z9:=Z9) (Z3:=Z3) (Z2:=Z2) (Z5:=Z5) (Z6:=Z6) (Z4:=Z4) (Z7:=Z7) (Z0:=Z0) (t.nW P w base) ((t.rK P w base).none (λ_ _ _ _ h=>Ydq h)) ((t.rJ P w base).none (λ_ _ _ _ h=>YhB h)) t.ZH t.ZJ t.Zu⟩
  | succ i ih =>
   obtain ⟨Z5i,Z5M,PK⟩:=ih;exact ⟨Mg (m:=i+1) (k:=4+i+1) (Z1:=Z1) (Z9:=Z9) (Z3:=Z3) (Z2:=Z2) (Z5:=Z5) (Z6:=Z6) (Z4:=Z4) (Z7:=Z7) (Z0:=Z0) (t.rJ P w base) (Pn.mono (by omega)) PK Pq (by omega) Pr (by omega) PB (by omega) Py (by omega) Pu (by omega) Px (by omega) t.ZH t.ZJ t.Zu,Mp (m:=i+1) (k:=4+i+1) (Z1:=Z1) (Z9:=Z9) (Z3:=Z3) (Z2:=Z2) (Z5:=Z5) (Z6:=Z6) (Z4:=Z4) (Z7:=Z7) (Z0:=Z0) (t.rK P w base) (PJ.mono (by omega)) PK Pz (by omega) t.ZH t.ZJ t.Zu t.Ze t.Zv t.Zn,Ms (m:=i+1) (k:=4+i+1) (Z1:=Z1) (Z9:=Z9) (Z3:=Z3) (Z2:=Z2) (Z5:=Z5) (Z6:=Z6) (Z4:=Z4) (Z7:=Z7) (Z0:=Z0) (t.nW P w base) Z5M Z5i t.ZH t.ZJ t.Zu⟩
 obtain ⟨rT,ur,Z5t⟩:=Z5h 59;have mO:=Ybm (k:=64) (Z1:=Z1) (Z9:=Z9) (Z3:=Z3) (Z2:=Z2) (Z5:=Z5) (Z6:=Z6) (Z4:=Z4) (Z7:=Z7) (Z0:=Z0) (t.DP P w base) Z5s (by decide) (Z5t.mono (by decide)) t.ZH t.ZJ t.Zu;have Z5N:=Z5q (Zl:=Zl) (t.DQ P w base) t.ZL t.ZG t.ZI t.ZT;have oF:=YbM (k:=2) (Zl:=Zl) (t.DR P w base) Z5N (by decide);have Z4J:∀ i:Nat,((Gx.mk P w K mg base).Me (92+i+1) Z0 "value_at" ["self","size","number"] (aW (Cs.mk Z0 Z4 Z5 Z6 Z2 Z3 Z1 Z7) 0 (i+1)))/\((Gx.mk P w K mg base).Me (92+i+1) Z4 "value_at" ["self","size","number"] (aW (Cs.mk Z0 Z4 Z5 Z6 Z2 Z3 Z1 Z7) 1 (i+1)))/\((Gx.mk P w K mg base).Me (92+i+1) Z5 "value_at" ["self","size","number"] (aW (Cs.mk Z0 Z4 Z5 Z6 Z2 Z3 Z1 Z7) 2 (i+1)))/\((Gx.mk P w K mg base).Me (92+i+1) Z2 "value_at" ["self","size","number"] (aW (Cs.mk Z0 Z4 Z5 Z6 Z2 Z3 Z1 Z7) 3 (i+1)))/\((Gx.mk P w K mg base).Me (92+i+1) Z3 "value_at" ["self","size","number"] (aW (Cs.mk Z0 Z4 Z5 Z6 Z2 Z3 Z1 Z7) 4 (i+1)))/\((Gx.mk P w K mg base).Me (92+i+1) Z1 "value_at" ["self","size","number"] (aW (Cs.mk Z0 Z4 Z5 Z6 Z2 Z3 Z1 Z7) 6 (i+1)))/\((Gx.mk P w K mg base).Me (92+i+1) Z7 "value_at" ["self","size","number"] (aW (Cs.mk Z0 Z4 Z5 Z6 Z2 Z3 Z1 Z7) 5 (i+1))):=by
  intro i
  induction i with
  | zero=>exact ⟨MJ (m:=0) (k:=92) (Z1:=Z1) (Z3:=Z3) (Z2:=Z2) (Z5:=Z5) (Z6:=Z6) (Z4:=Z4) (Z7:=Z7) (Z0:=Z0) (t.ZR P w base) (wu.mono (by omega)) t.Z8 t.Zh t.ZD t.Zy,((Ni (m:=0) (Z1:=Z1) (Z3:=Z3) (Z2:=Z2) (Z5:=Z5) (Z6:=Z6) (Z4:=Z4) (Z7:=Z7) (Z0:=Z0) (t.ZX P w base) t.ao t.Zg t.Zd t.Zz t.Zr).mono (by omega)),M7 (m:=0) (k:=92) (Z1:=Z1) (Zl:=Zl) (Z3:=Z3) (Z2:=Z2) (Z5:=Z5) (Z6:=Z6) (Z4:=Z4) (Z7:=Z7) (Z0:=Z0) (t.jD P w base) (oF.mono (by omega)) (Ph.mono (by omega)) ((Yc ((t.ZR P w base).none (λ_ _ _ _ h=>YE h)) t.Z8 (Yc ((t.ZX P w base).none (λ_ _ _ _ h=>YE h)) t.Zd (Yc ((t.jD P w base).none (λ_ _ _ _ h=>YE h)) t.Zf (Yc ((t.ZW P w base).none (λ_ _ _ _ h=>YE h)) t.Zb (Yc ((t.ZY P w base).none (λ_ _ _ _ h=>YE h)) t.Zc (Yc ((t.ZS P w base).none (λ_ _ _ _ h=>YE h)) t.Za (Yc ((t.jC P w base).none (λ_ _ _ _ h=>YE h)) t.Ze YR)))))))) t.nH t.cF t.ZL t.ZG t.ZI t.ZT t.Zf t.ZC t.ZE t.ZB t.Zj t.Zo t.Zi,M4 (m:=0) (k:=92) (Z1:=Z1) (Zl:=Zl) (Z3:=Z3) (Z2:=Z2) (Z5:=Z5) (Z6:=Z6) (Z4:=Z4) (Z7:=Z7) (Z0:=Z0) (t.ZW P w base) (oF.mono (by omega)) (Pj.mono (by omega)) ((Yc ((t.ZR P w base).none (λ_ _ _ _ h=>YE h)) t.Z8 (Yc ((t.ZX P w base).none (λ_ _ _ _ h=>YE h)) t.Zd (Yc ((t.jD P w base).none (λ_ _ _ _ h=>YE h)) t.Zf (Yc ((t.ZW P w base).none (λ_ _ _ _ h=>YE h)) t.Zb (Yc ((t.ZY P w base).none (λ_ _ _ _ h=>YE h)) t.Zc (Yc ((t.ZS P w base).none (λ_ _ _ _ h=>YE h)) t.Za (Yc ((t.jC P w base).none (λ_ _ _ _ h=>YE h)) t.Ze YR)))))))) t.ZL t.ZG t.ZI t.ZT t.Zb t.Zp t.Zs t.Zm,Nm (m:=0) (k:=92) (Z1:=Z1) (Zl:=Zl) (Z3:=Z3) (Z2:=Z2) (Z5:=Z5) (Z6:=Z6) (Z4:=Z4) (Z7:=Z7) (Z0:=Z0) (t.ZY P w base) (oF.mono (by omega)) (Pk.mono (by omega)) ((Yc ((t.ZR P w base).none (λ_ _ _ _ h=>YE h)) t.Z8 (Yc ((t.ZX P w base).none (λ_ _ _ _ h=>YE h)) t.Zd (Yc ((t.jD P w base).none (λ_ _ _ _ h=>YE h)) t.Zf (Yc ((t.ZW P w base).none (λ_ _ _ _ h=>YE h)) t.Zb (Yc ((t.ZY P w base).none (λ_ _ _ _ h=>YE h)) t.Zc (Yc ((t.ZS P w base).none (λ_ _ _ _ h=>YE h)) t.Za (Yc ((t.jC P w base).none (λ_ _ _ _ h=>YE h)) t.Ze YR)))))))) t.ZL t.ZG t.ZI t.ZT t.Zc t.Zq t.Zt,Nk (m:=0) (k:=92) (Z1:=Z1) (Z3:=Z3) (Z2:=Z2) (Z5:=Z5) (Z6:=Z6) (Z4:=Z4) (Z7:=Z7) (Z0:=Z0) (t.ZS P w base) ((Yc ((t.ZR P w base).none (λ_ _ _ _ h=>YE h)) t.Z8 (Yc ((t.ZX P w base).none (λ_ _ _ _ h=>YE h)) t.Zd (Yc ((t.jD P w base).none (λ_ _ _ _ h=>YE h)) t.Zf (Yc ((t.ZW P w base).none (λ_ _ _ _ h=>YE h)) t.Zb (Yc ((t.ZY P w base).none (λ_ _ _ _ h=>YE h)) t.Zc (Yc ((t.ZS P w base).none (λ_ _ _ _ h=>YE h)) t.Za (Yc ((t.jC P w base).none (λ_ _ _ _ h=>YE h)) t.Ze YR)))))))) t.Zg t.Za t.Zw t.Zx t.Zk,MK (m:=0) (k:=92) (Z1:=Z1) (Z3:=Z3) (Z2:=Z2) (Z5:=Z5) (Z6:=Z6) (Z4:=Z4) (Z7:=Z7) (Z0:=Z0) (t.jC P w base) ((Yc ((t.ZR P w base).none (λ_ _ _ _ h=>YE h)) t.Z8 (Yc ((t.ZX P w base).none (λ_ _ _ _ h=>YE h)) t.Zd (Yc ((t.jD P w base).none (λ_ _ _ _ h=>YE h)) t.Zf (Yc ((t.ZW P w base).none (λ_ _ _ _ h=>YE h)) t.Zb (Yc ((t.ZY P w base).none (λ_ _ _ _ h=>YE h)) t.Zc (Yc ((t.ZS P w base).none (λ_ _ _ _ h=>YE h)) t.Za (Yc ((t.jC P w base).none (λ_ _ _ _ h=>YE h)) t.Ze YR)))))))) t.Ze t.Zv t.Zn⟩
  | succ i ih =>
   obtain ⟨rW,rY,rZ,sy,sE,sG,sH⟩:=ih;exact ⟨MJ (m:=i+1) (k:=92+i+1) (Z1:=Z1) (Z3:=Z3) (Z2:=Z2) (Z5:=Z5) (Z6:=Z6) (Z4:=Z4) (Z7:=Z7) (Z0:=Z0) (t.ZR P w base) (wu.mono (by omega)) t.Z8 t.Zh t.ZD t.Zy,((Ni (m:=i+1) (Z1:=Z1) (Z3:=Z3) (Z2:=Z2) (Z5:=Z5) (Z6:=Z6) (Z4:=Z4) (Z7:=Z7) (Z0:=Z0) (t.ZX P w base) t.ao t.Zg t.Zd t.Zz t.Zr).mono (by omega)),M7 (m:=i+1) (k:=92+i+1) (Z1:=Z1) (Zl:=Zl) (Z3:=Z3) (Z2:=Z2) (Z5:=Z5) (Z6:=Z6) (Z4:=Z4) (Z7:=Z7) (Z0:=Z0) (t.jD P w base) (oF.mono (by omega)) (Ph.mono (by omega)) ((Yc rW t.Z8 (Yc rY t.Zd (Yc rZ t.Zf (Yc sy t.Zb (Yc sE t.Zc (Yc sG t.Za (Yc sH t.Ze YR)))))))) t.nH t.cF t.ZL t.ZG t.ZI t.ZT t.Zf t.ZC t.ZE t.ZB t.Zj t.Zo t.Zi,M4 (m:=i+1) (k:=92+i+1) (Z1:=Z1) (Zl:=Zl) (Z3:=Z3) (Z2:=Z2) (Z5:=Z5) (Z6:=Z6) (Z4:=Z4) (Z7:=Z7) (Z0:=Z0) (t.ZW P w base) (oF.mono (by omega)) (Pj.mono (by omega)) ((Yc rW t.Z8 (Yc rY t.Zd (Yc rZ t.Zf (Yc sy t.Zb (Yc sE t.Zc (Yc sG t.Za (Yc sH t.Ze YR)))))))) t.ZL t.ZG t.ZI t.ZT t.Zb t.Zp t.Zs t.Zm,Nm (m:=i+1) (k:=92+i+1) (Z1:=Z1) (Zl:=Zl) (Z3:=Z3) (Z2:=Z2) (Z5:=Z5) (Z6:=Z6) (Z4:=Z4) (Z7:=Z7) (Z0:=Z0) (t.ZY P w base) (oF.mono (by omega)) (Pk.mono (by omega)) ((Yc rW t.Z8 (Yc rY t.Zd (Yc rZ t.Zf (Yc sy t.Zb (Yc sE t.Zc (Yc sG t.Za (Yc sH t.Ze YR)))))))) t.ZL t.ZG t.ZI t.ZT t.Zc t.Zq t.Zt,Nk (m:=i+1) (k:=92+i+1) (Z1:=Z1) (Z3:=Z3) (Z2:=Z2) (Z5:=Z5) (Z6:=Z6) (Z4:=Z4) (Z7:=Z7) (Z0:=Z0) (t.ZS P w base) ((Yc rW t.Z8 (Yc rY t.Zd (Yc rZ t.Zf (Yc sy t.Zb (Yc sE t.Zc (Yc sG t.Za (Yc sH t.Ze YR)))))))) t.Zg t.Za t.Zw t.Zx t.Zk,MK (m:=i+1) (k:=92+i+1) (Z1:=Z1) (Z3:=Z3) (Z2:=Z2) (Z5:=Z5) (Z6:=Z6) (Z4:=Z4) (Z7:=Z7) (Z0:=Z0) (t.jC P w base) ((Yc rW t.Z8 (Yc rY t.Zd (Yc rZ t.Zf (Yc sy t.Zb (Yc sE t.Zc (Yc sG t.Za (Yc sH t.Ze YR)))))))) t.Ze t.Zv t.Zn⟩
 obtain ⟨Z43,Z4K,Z52,Z4L,Z4M,Z44,Z53⟩:=Z4J 17;have pF:=YbN (k:=110) (Z1:=Z1) (Z3:=Z3) (Z2:=Z2) (Z5:=Z5) (Z6:=Z6) (Z4:=Z4) (Z7:=Z7) (Z0:=Z0) (t.DW P w base) ((Yc (O6.mono (by decide)) t.Z8 (Yc (O7.mono (by decide)) t.Zd (Yc (O8.mono (by decide)) t.Zf (Yc (O9.mono (by decide)) t.Zb (Yc (Pa.mono (by decide)) t.Zc (Yc (Pb.mono (by decide)) t.Za (Yc (Pg.mono (by decide)) t.Ze YR)))))))) ((Yc (Z43.mono (by decide)) t.Z8 (Yc (Z4K.mono (by decide)) t.Zd (Yc (Z52.mono (by decide)) t.Zf (Yc (Z4L.mono (by decide)) t.Zb (Yc (Z4M.mono (by decide)) t.Zc (Yc (Z44.mono (by decide)) t.Za (Yc (Z53.mono (by decide)) t.Ze YR)))))))) t.Zg;have Z5u:=Z5d (t.DX P w base);have mz:=Yas (k:=111) (Z1:=Z1) (Z3:=Z3) (Z2:=Z2) (Z5:=Z5) (Z6:=Z6) (Z4:=Z4) (Z7:=Z7) (Z0:=Z0) (t.DY P w base) (mO.mono (by decide)) (Z5u.mono (by decide)) (pF.mono (by decide)) ((Yc (O6.mono (by decide)) t.Z8 (Yc (O7.mono (by decide)) t.Zd (Yc (O8.mono (by decide)) t.Zf (Yc (O9.mono (by decide)) t.Zb (Yc (Pa.mono (by decide)) t.Zc (Yc (Pb.mono (by decide)) t.Za (Yc (Pg.mono (by decide)) t.Ze YR))))))));have pG:=vN (m:=0) (k:=0) (t.lX P w base) ((t.lX P w base).none (λ_ _ _ _ h=>YeH h)) t.bZ t.ZF t.bx t.cF;have pH:=vN (m:=1) (k:=1) (t.lX P w base) (pG.mono (by decide)) t.bZ t.ZF t.bx t.cF;have pI:=vN (m:=2) (k:=2) (t.lX P w base) (pH.mono (by decide)) t.bZ t.ZF t.bx t.cF;have uw:=vN (m:=3) (k:=3) (t.lX P w base) (pI.mono (by decide)) t.bZ t.ZF t.bx t.cF;have wH:=Yfu (k:=30) (t.jJ P w base) (uw.mono (by decide)) (by decide);have ux:=YeI (k:=112) (t.iY P w base) (mz.mono (by decide)) (wH.mono (by decide));have PL:=Ybw (t.Ea P w base) t.Zg;have PN:=Z63 (t.Eb P w base) t.eG t.Zg;have pJ:∀ i:Nat,((Gx.mk P w K mg base).Fn (1+i+1) "_law_rows" ["_law_book","_law_parts","_law_size_here"] (qP (Gx.mk P w K mg base).K (i+1)))/\((Gx.mk P w K mg base).Fn (1+i+1) "_law_lists" ["_law_book","_law_part","_law_size_here"] (qQ (Gx.mk P w K mg base).K (i+1)))/\((Gx.mk P w K mg base).Fn (1+i+1) "_law_all" ["_law_book","_law_shape_here","_law_size_here"] (cU (Gx.mk P w K mg base).K (i+1))):=by
  intro i
  induction i with
  | zero=>exact ⟨NZ (m:=0) (k:=1) (t.nY P w base) ((t.nY P w base).none (λ_ _ _ _ h=>NP h)) ((t.lY P w base).none (λ_ _ _ _ h=>Q1 h)) t.iw t.Zg,N5 (m:=0) (k:=1) (t.nZ P w base) ((t.nZ P w base).none (λ_ _ _ _ h=>NQ h)) ((t.lY P w base).none (λ_ _ _ _ h=>Q1 h)) t.Zg,Ob (m:=0) (k:=1) (t.lY P w base) (PL.mono (by omega)) (PN.mono (by omega)) ((t.nY P w base).none (λ_ _ _ _ h=>NP h)) ((t.nZ P w base).none (λ_ _ _ _ h=>NQ h)) ((t.lY P w base).none (λ_ _ _ _ h=>Q1 h)) t.bZ t.Zg⟩
  | succ i ih =>
   obtain ⟨PX,Ra,Ej⟩:=ih;exact ⟨NZ (m:=i+1) (k:=1+i+1) (t.nY P w base) PX Ej t.iw t.Zg,N5 (m:=i+1) (k:=1+i+1) (t.nZ P w base) Ra Ej t.Zg,Ob (m:=i+1) (k:=1+i+1) (t.lY P w base) (PL.mono (by omega)) (PN.mono (by omega)) PX Ra Ej t.bZ t.Zg⟩
 obtain ⟨Fj,Ek,j7⟩:=pJ 117;have sI:=Z64 (t.Ec P w base) t.ao;have wz:=YbO (t.Ed P w base) t.Zg;have wA:=YbP (t.Ef P w base);have j9:=CT (m:=0) (k:=1) (t.n6 P w base) (sI.mono (by decide)) (wz.mono (by decide)) (wA.mono (by decide)) ((t.n6 P w base).none (λ_ _ _ _ h=>YeL h));have kj:=CT (m:=1) (k:=2) (t.n6 P w base) (sI.mono (by decide)) (wz.mono (by decide)) (wA.mono (by decide)) (j9.mono (by decide));have mQ:=CT (m:=2) (k:=3) (t.n6 P w base) (sI.mono (by decide)) (wz.mono (by decide)) (wA.mono (by decide)) (kj.mono (by decide));have pK:=YbQ (k:=119) (t.Eh P w base) (j7.mono (by decide)) t.ao;have Z5v:=qW (m:=0) (k:=0) (t.lZ P w base) ((t.j6 P w base).none (λ_ _ _ _ h=>YgY h)) t.ao t.Zg;have mC:=qX (m:=0) (k:=1) (t.j6 P w base) (Z5v.mono (by decide)) t.cG t.ZF t.bx t.cF;have Z5w:=qW (m:=1) (k:=2) (t.lZ P w base) (mC.mono (by decide)) t.ao t.Zg;have mD:=qX (m:=1) (k:=3) (t.j6 P w base) (Z5w.mono (by decide)) t.cG t.ZF t.bx t.cF;have Z5x:=qW (m:=2) (k:=4) (t.lZ P w base) (mD.mono (by decide)) t.ao t.Zg;have mF:=qX (m:=2) (k:=5) (t.j6 P w base) (Z5x.mono (by decide)) t.cG t.ZF t.bx t.cF;have Z5y:=qW (m:=3) (k:=6) (t.lZ P w base) (mF.mono (by decide)) t.ao t.Zg;have mG:=qX (m:=3) (k:=7) (t.j6 P w base) (Z5y.mono (by decide)) t.cG t.ZF t.bx t.cF;have Z5z:=qW (m:=4) (k:=8) (t.lZ P w base) (mG.mono (by decide)) t.ao t.Zg;have pL:=qX (m:=4) (k:=9) (t.j6 P w base) (Z5z.mono (by decide)) t.cG t.ZF t.bx t.cF;have mR:=YbA (k:=1) (aX:=aX) (aM:=aM) (t.Ei P w base) hB mj (sI.mono (by decide)) t.ao t.cI t.Zg;exact YfB (g:=Gx.mk P w K mg base) (k:=120) (ux.mono (by decide)) (sI.mono (by decide)) (wz.mono (by decide)) (j7.mono (by decide)) (wA.mono (by decide)) (mQ.mono (by decide)) (pK.mono (by decide)) (pL.mono (by decide)) (mR.mono (by decide)) (by decide) t.ao t.Zg
end KW
namespace PySem.W.Fast
theorem tw5712469083495468829:True:=⟨⟩
theorem tw17572608029852624005:True:=⟨⟩
theorem tw9528456519158484726:True:=⟨⟩
theorem tw13662566343751336454:True:=⟨⟩
theorem tw2644374669108075874:True:=⟨⟩
theorem tw481449518313604619:True:=⟨⟩
theorem tw5847983342645088975:True:=⟨⟩
theorem tw17078478239327121013:True:=⟨⟩
theorem tw17459503321070431497:True:=⟨⟩
theorem tw2532021464361626777:True:=⟨⟩
theorem tw4681926668463204937:True:=⟨⟩
theorem tw14289317536822721244:True:=⟨⟩
theorem tw13070763714127019644:True:=⟨⟩
theorem tw473503113265078228:True:=⟨⟩
theorem tw10300010125276260753:True:=⟨⟩
theorem tw4617131278889378690:True:=⟨⟩
theorem tw9243337938157648573:True:=⟨⟩
theorem tw8428871276876352594:True:=⟨⟩
theorem tw11015565115118435956:True:=⟨⟩
theorem tw3859066130191285175:True:=⟨⟩
theorem tw7036705758112172633:True:=⟨⟩
theorem tw7115973246685783781:True:=⟨⟩
theorem tw18205131385499815034:True:=⟨⟩
theorem tw13224415765278926580:True:=⟨⟩
theorem tw219883752364309714:True:=⟨⟩
theorem tw5385254624923718226:True:=⟨⟩
theorem tw14699380153337290472:True:=⟨⟩
theorem tw11801155385108738048:True:=⟨⟩
theorem tw2659826581275417739:True:=⟨⟩
theorem tw767323887858979047:True:=⟨⟩
theorem tw11720650139239085416:True:=⟨⟩
theorem tw4345249738811100153:True:=⟨⟩
theorem tw9684899528813919683:True:=⟨⟩
theorem tw16247617108633038939:True:=⟨⟩
theorem tw7953508100552933406:True:=⟨⟩
theorem tw11366637643949694614:True:=⟨⟩
theorem tw5727641815356558826:True:=⟨⟩
theorem tw1375976590047638561:True:=⟨⟩
theorem tw13747082715642839092:True:=⟨⟩
theorem tw6513058328721744169:True:=⟨⟩
theorem tw12721429955258461496:True:=⟨⟩
theorem tw11438001849398178194:True:=⟨⟩
theorem tw3940294559361056671:True:=⟨⟩
theorem tw14185827600910184511:True:=⟨⟩
theorem tw12657244981158066345:True:=⟨⟩
theorem tw13795217730817830468:True:=⟨⟩
theorem tw10431541944764657437:True:=⟨⟩
theorem tw6110351811275539094:True:=⟨⟩
theorem tw6838874177830223169:True:=⟨⟩
theorem tw1548802891451158754:True:=⟨⟩
theorem tw17775116766090955895:True:=⟨⟩
theorem tw9017192940920570087:True:=⟨⟩
theorem tw7821411009099949038:True:=⟨⟩
theorem tw1486718214201507755:True:=⟨⟩
theorem tw1494143572171657240:True:=⟨⟩
theorem tw1355259499223686128:True:=⟨⟩
theorem tw8882084680362652085:True:=⟨⟩
theorem tw14251374393153383162:True:=⟨⟩
theorem tw296038058893243547:True:=⟨⟩
theorem tw3056935453296624527:True:=⟨⟩
theorem tw1673224020846398546:True:=⟨⟩
theorem tw2627961304742315283:True:=⟨⟩
theorem tw8190232298540964120:True:=⟨⟩
theorem tw4998928990980960085:True:=⟨⟩
theorem tw13407908974934994310:True:=⟨⟩
theorem tw16523326759186305948:True:=⟨⟩
theorem tw6298225590445915046:True:=⟨⟩
theorem tw16051440664650758335:True:=⟨⟩
theorem tw4068309151813499078:True:=⟨⟩
theorem tw7249929106691802355:True:=⟨⟩
theorem tw11923470156240369495:True:=⟨⟩
theorem tw16479282553695827799:True:=⟨⟩
theorem tw4131511480041482854:True:=⟨⟩
theorem tw15616302121834158671:True:=⟨⟩
theorem tw13909655845813230726:True:=⟨⟩
theorem tw6206700341533512509:True:=⟨⟩
theorem tw5375589694296168385:True:=⟨⟩
theorem tw11314140721728425123:True:=⟨⟩
theorem tw610129844422421387:True:=⟨⟩
theorem tw4366091105063559068:True:=⟨⟩
theorem tw2801170021244036933:True:=⟨⟩
theorem tw9939425709931314623:True:=⟨⟩
theorem tw7173237578856428989:True:=⟨⟩
theorem tw12409669372500837084:True:=⟨⟩
theorem tw6569227667529749623:True:=⟨⟩
theorem tw14137439246024881567:True:=⟨⟩
theorem tw1367971362501021705:True:=⟨⟩
theorem tw9410816586929658385:True:=⟨⟩
theorem tw15853072990862899910:True:=⟨⟩
theorem tw17053868813762631645:True:=⟨⟩
theorem tw8872138860930486282:True:=⟨⟩
theorem tw7068704477628495494:True:=⟨⟩
theorem tw12743948395934111205:True:=⟨⟩
theorem tw6275660541967279643:True:=⟨⟩
theorem tw1575185819148821604:True:=⟨⟩
theorem tw11241756808708684675:True:=⟨⟩
theorem tw13552286754554789957:True:=⟨⟩
theorem tw14837677212764602933:True:=⟨⟩
theorem tw1094298612923228847:True:=⟨⟩
theorem tw1377310957498418976:True:=⟨⟩
theorem tw15271489328543473982:True:=⟨⟩
theorem tw11133575858840434063:True:=⟨⟩
theorem tw13786937832571007226:True:=⟨⟩
theorem tw11294194168075610464:True:=⟨⟩
theorem tw4076153023797446785:True:=⟨⟩
theorem tw2462569386065106620:True:=⟨⟩
theorem tw1465421823079071302:True:=⟨⟩
theorem tw10783079531170601206:True:=⟨⟩
theorem tw9278457201145016573:True:=⟨⟩
theorem tw12552641603941763612:True:=⟨⟩
theorem tw3857784980536791215:True:=⟨⟩
theorem tw5057769456910192851:True:=⟨⟩
theorem tw3645283037973983727:True:=⟨⟩
theorem tw16992496845632635063:True:=⟨⟩
theorem tw15262881165376539673:True:=⟨⟩
theorem tw13389889689762853006:True:=⟨⟩
theorem tw12894543544022602792:True:=⟨⟩
theorem tw10695475429707898386:True:=⟨⟩
theorem tw3337026117801707989:True:=⟨⟩
theorem tw6089442995620533655:True:=⟨⟩
theorem tw5604320897634716539:True:=⟨⟩
theorem tw3223019921100841397:True:=⟨⟩
theorem tw8200675150935618517:True:=⟨⟩
theorem tw10885225508945207381:True:=⟨⟩
theorem tw4851742336360210408:True:=⟨⟩
theorem tw17870091916452030584:True:=⟨⟩
theorem tw514537682380203522:True:=⟨⟩
theorem tw12743146406437598764:True:=⟨⟩
theorem tw11934818404860339020:True:=⟨⟩
theorem tw3137830230375018105:True:=⟨⟩
theorem tw13680115484298453522:True:=⟨⟩
theorem tw6929456729440252040:True:=⟨⟩
theorem tw1216388210001573090:True:=⟨⟩
theorem tw2359629259113827622:True:=⟨⟩
theorem tw14032134659069837961:True:=⟨⟩
theorem tw17141412358350946747:True:=⟨⟩
theorem tw7987533407163380829:True:=⟨⟩
theorem tw502670061204226411:True:=⟨⟩
theorem tw14498419250068502441:True:=⟨⟩
theorem tw15042843662474420289:True:=⟨⟩
theorem tw16711727729022378782:True:=⟨⟩
theorem tw1384155755364596704:True:=⟨⟩
theorem tw15467805725904597478:True:=⟨⟩
theorem tw9130130443844019972:True:=⟨⟩
theorem tw14574753737528340408:True:=⟨⟩
theorem tw5396540691595734865:True:=⟨⟩
theorem tw8758546096066293924:True:=⟨⟩
theorem tw14616300679280253380:True:=⟨⟩
theorem tw8749676323270261377:True:=⟨⟩
theorem tw9886473580073279602:True:=⟨⟩
theorem tw17916247301285630977:True:=⟨⟩
theorem tw10628432279135863865:True:=⟨⟩
theorem tw2056220860700163208:True:=⟨⟩
theorem tw15392789815975243799:True:=⟨⟩
theorem tw989557819087500281:True:=⟨⟩
theorem tw3503605633626713342:True:=⟨⟩
theorem tw9076013775450935943:True:=⟨⟩
theorem tw4200523395659858952:True:=⟨⟩
theorem tw6052329069102102549:True:=⟨⟩
theorem tw11487124463114556596:True:=⟨⟩
theorem tw14716582922478699885:True:=⟨⟩
theorem tw8354424396792069953:True:=⟨⟩
theorem tw1966180227965205384:True:=⟨⟩
theorem tw6982265195640259549:True:=⟨⟩
theorem tw11080104140675221596:True:=⟨⟩
theorem tw13302001961277227546:True:=⟨⟩
theorem tw12203412956145575490:True:=⟨⟩
theorem tw10554188323032927872:True:=⟨⟩
theorem tw9046534236680682536:True:=⟨⟩
theorem tw10462773743578727216:True:=⟨⟩
theorem tw8973831259721244215:True:=⟨⟩
theorem tw13576450514552250487:True:=⟨⟩
theorem tw3338119459138091615:True:=⟨⟩
theorem tw12092429026812005334:True:=⟨⟩
theorem tw13718350106728660020:True:=⟨⟩
theorem tw1320861417363985247:True:=⟨⟩
theorem tw13800411418974006894:True:=⟨⟩
theorem tw14500634935505122767:True:=⟨⟩
theorem tw16285206234634116773:True:=⟨⟩
theorem tw762937811316115226:True:=⟨⟩
theorem tw1966366019138734944:True:=⟨⟩
theorem tw17602744289811294792:True:=⟨⟩
theorem tw16362756853193846770:True:=⟨⟩
theorem tw2921448764007643325:True:=⟨⟩
theorem tw14208092826625723123:True:=⟨⟩
theorem tw4550555598394091557:True:=⟨⟩
theorem tw688855752283749514:True:=⟨⟩
theorem tw2089602710552657160:True:=⟨⟩
theorem tw771335993788763372:True:=⟨⟩
theorem tw7778964313735840816:True:=⟨⟩
theorem tw2538839671802657059:True:=⟨⟩
theorem tw10337322238120704688:True:=⟨⟩
theorem tw3970678881551317146:True:=⟨⟩
theorem tw11765886625499197603:True:=⟨⟩
theorem tw13729034819364977279:True:=⟨⟩
theorem tw7829931918768326045:True:=⟨⟩
theorem tw70789436274593830:True:=⟨⟩
theorem tw10844015826446018959:True:=⟨⟩
theorem tw9136433978817252528:True:=⟨⟩
theorem tw14447556426302777579:True:=⟨⟩
theorem tw17158459829403983394:True:=⟨⟩
theorem tw13941487344926949294:True:=⟨⟩
theorem tw13089194163362834853:True:=⟨⟩
theorem tw6113710965265366202:True:=⟨⟩
theorem tw9316157771741737582:True:=⟨⟩
theorem tw6923242358208385670:True:=⟨⟩
theorem tw12845908010069879421:True:=⟨⟩
theorem tw1155666189926359660:True:=⟨⟩
theorem tw8794926970269540555:True:=⟨⟩
theorem tw2768415442130992892:True:=⟨⟩
theorem tw10553412747571709247:True:=⟨⟩
theorem tw17963970873298607519:True:=⟨⟩
end PySem.W.Fast
open PySem PySem.W PyProof.Rows
set_option maxRecDepth 100000 in
set_option maxHeartbeats 0 in
theorem PySem.Challenge.cw_countgen_k42_sieved_holds : PySem.Challenge.rw_countgen_k42_sieved.Holds := by
 w_on;o_law;k_head;(case hw=>w_witness2)
 k_fill
 refine' L2.Ye4 (l:=PySem.Challenge.rw_countgen_k42_sieved) (tabs:=[("_law_judge",776,772)]) 120 "_law_script" KW.vh ["_law_script","_law_name_here","_law_book","_law_shape_here","_law_size_here","_law_due","_law_turn","_law_judge_here","_law_left"] rfl rfl ⟨rfl,by decide,by decide,rfl⟩ KW.Wj (λw h Y=>by first | exact PySem.W.kIn_of Y | exact PySem.W.km_in_of Y) ?tR ?tT ?tN ?F
 case tR=>intro p hp;simp only [Ν,ς,or_false] at hp;rcases hp with rfl<;>exact ⟨_,rfl⟩
 case tT=>intro w p hp;simp only [Ν,ς,or_false] at hp;rcases hp with rfl<;>kernel_rfl
 case tN=>intro w p hp;simp only [Ν,ς,or_false] at hp;rcases hp with rfl<;>kernel_rfl
 case F =>
  intro w mg h KX G;refine' ⟨L2.Yd0 KX G ?a ?l ?c ?k (λ_ _ _ _ _ _ _ _ => .of_eq rfl),λbase hB hC=>KW.YfC ⟨?ZP,?ZM,?ZZ,?ZV,?ZN,?jB,?ZQ,?Dk,?qY,?qZ,?Dl,?rm,?rz,?nR,?rA,?rB,?rD,?rE,?rF,?rG,?rH,?Dm,?Dn,?Dp,?Dq,?Ds,?Dt,?Dv,?Dw,?Dy,?Dz,?DG,?DN,?rJ,?rK,?nW,?DP,?DQ,?DR,?ZR,?jC,?ZW,?jD,?ZX,?ZS,?ZY,?DW,?DX,?DY,?lX,?jJ,?iY,?Ea,?Eb,?nY,?nZ,?lY,?Ec,?Ed,?Ef,?n6,?Eh,?lZ,?j6,?Ei,?Za,?Zw,?Zx,?Zk,?ZL,?ZG,?ZI,?ZT,?ZH,?ZJ,?Zu,?Zc,?Zq,?Zt,?Zb,?Zp,?Zs,?Zm,?Zf,?ZC,?ZE,?ZB,?Zj,?Zo,?Zi,?Zd,?Zz,?Zr,?Ze,?Zv,?Zn,?Z8,?Zh,?ZD,?Zy,?qF,?cG,?bZ,?nH,?iw,?ZF,?ao,?bx,?cI,?eG,?Zg,?jq,?cF⟩ _ w base hB (hC _ (.head _))⟩;(case a=>k_is);(case l=>k_is);(case c=>k_is);(case k=>k_is)
  case Dp=>refine' L2.X0 KX G ["self","low","high"] ?_ ?_ ?_ ?_ ?_ ?_ ?_ ?_ (λ_ _ _ _ _ _ us hl=>by obtain ⟨_,_,_,rfl⟩:=KW.gP hl;rfl)<;>try k_is
  case Dq=>refine' L2.X0 KX G ["self","signs"] ?_ ?_ ?_ ?_ ?_ ?_ ?_ ?_ (λ_ _ _ _ _ _ us hl=>by obtain ⟨_,_,rfl⟩:=KW.cD hl;rfl)<;>try k_is
  case Ds=>refine' L2.X0 KX G ["self","part"] ?_ ?_ ?_ ?_ ?_ ?_ ?_ ?_ (λ_ _ _ _ _ _ us hl=>by obtain ⟨_,_,rfl⟩:=KW.cD hl;rfl)<;>try k_is
  case Dt=>refine' L2.X0 KX G ["self","part","times"] ?_ ?_ ?_ ?_ ?_ ?_ ?_ ?_ (λ_ _ _ _ _ _ us hl=>by obtain ⟨_,_,_,rfl⟩:=KW.gP hl;rfl)<;>try k_is
  case Dv=>refine' L2.X0 KX G ["self","marks","parts"] ?_ ?_ ?_ ?_ ?_ ?_ ?_ ?_ (λ_ _ _ _ _ _ us hl=>by obtain ⟨_,_,_,rfl⟩:=KW.gP hl;rfl)<;>try k_is
  case Dw=>refine' L2.X0 KX G ["self"] ?_ ?_ ?_ ?_ ?_ ?_ ?_ ?_ (λ_ _ _ _ _ _ us hl=>by obtain ⟨_,rfl⟩:=KW.lW hl;rfl)<;>try k_is
  case Dy | Dz=>refine' L2.X0 KX G ["self","parts"] ?_ ?_ ?_ ?_ ?_ ?_ ?_ ?_ (λ_ _ _ _ _ _ us hl=>by obtain ⟨_,_,rfl⟩:=KW.cD hl;rfl)<;>try k_is
  case DG=>refine' L2.X0 KX G ["self","book"] ?_ ?_ ?_ ?_ ?_ ?_ ?_ ?_ (λ_ _ _ _ _ _ us hl=>by obtain ⟨_,_,rfl⟩:=KW.cD hl;rfl)<;>try k_is
  case DQ=>refine' L2.X0 KX G ["self","place","choice","rest"] ?_ ?_ ?_ ?_ ?_ ?_ ?_ ?_ (λ_ _ _ _ _ _ us hl=>by obtain ⟨_,_,_,_,rfl⟩:=KW.Dj hl;rfl)<;>try k_is
  case ZP | ZM | ZZ | ZV | ZN | jB | ZQ=>refine' L2.XT KX G ["self","size"] ?_ ?_ ?_ ?_ ?_ (λ_ _ _ _ _ _ us hl=>by obtain ⟨_,_,rfl⟩:=KW.cD hl;rfl)<;>try k_is
  case Dk=>refine' L2.Y7 KX G ["size"] ?_ ?_ ?_ ?_ (λ_ _ _ _ _ _ us hl=>by obtain ⟨_,rfl⟩:=KW.lW hl;rfl)<;>try k_is
  case qY | qZ=>refine' L2.XT KX G ["self","size"] ?_ ?_ ?_ ?_ ?_ (λ_ _ _ _ _ _ us hl=>by obtain ⟨_,_,rfl⟩:=KW.cD hl;rfl)<;>try k_is
  case Dl=>refine' L2.Y7 KX G ["blocks"] ?_ ?_ ?_ ?_ (λ_ _ _ _ _ _ us hl=>by obtain ⟨_,rfl⟩:=KW.lW hl;rfl)<;>try k_is
  case rm=>refine' L2.XT KX G ["self","place","left"] ?_ ?_ ?_ ?_ ?_ (λ_ _ _ _ _ _ us hl=>by obtain ⟨_,_,_,rfl⟩:=KW.gP hl;rfl)<;>try k_is
  case rz=>refine' L2.XT KX G ["self","size"] ?_ ?_ ?_ ?_ ?_ (λ_ _ _ _ _ _ us hl=>by obtain ⟨_,_,rfl⟩:=KW.cD hl;rfl)<;>try k_is
  case nR=>refine' L2.XT KX G ["self","place","left"] ?_ ?_ ?_ ?_ ?_ (λ_ _ _ _ _ _ us hl=>by obtain ⟨_,_,_,rfl⟩:=KW.gP hl;rfl)<;>try k_is
  case rA | rB | rD=>refine' L2.XT KX G ["self","size"] ?_ ?_ ?_ ?_ ?_ (λ_ _ _ _ _ _ us hl=>by obtain ⟨_,_,rfl⟩:=KW.cD hl;rfl)<;>try k_is
  case rE=>refine' L2.XT KX G ["self","left"] ?_ ?_ ?_ ?_ ?_ (λ_ _ _ _ _ _ us hl=>by obtain ⟨_,_,rfl⟩:=KW.cD hl;rfl)<;>try k_is
  case rF | rG | rH=>refine' L2.XT KX G ["self","size"] ?_ ?_ ?_ ?_ ?_ (λ_ _ _ _ _ _ us hl=>by obtain ⟨_,_,rfl⟩:=KW.cD hl;rfl)<;>try k_is
  case Dm=>refine' L2.Y7 KX G ["shape"] ?_ ?_ ?_ ?_ (λ_ _ _ _ _ _ us hl=>by obtain ⟨_,rfl⟩:=KW.lW hl;rfl)<;>try k_is
  case Dn=>refine' L2.Ygy KX G ["self"] ?_ ?_ ?_ ?_ ?_ ?_ ?_ (λ_ _ _ _ _ _ us hl=>by obtain ⟨_,rfl⟩:=KW.lW hl;rfl)<;>try k_is
  case DN=>refine' L2.Y7 KX G ["book","name"] ?_ ?_ ?_ ?_ (λ_ _ _ _ _ _ us hl=>by obtain ⟨_,_,rfl⟩:=KW.cD hl;rfl)<;>try k_is
  case rJ | rK | nW=>refine' L2.XT KX G ["self","shape"] ?_ ?_ ?_ ?_ ?_ (λ_ _ _ _ _ _ us hl=>by obtain ⟨_,_,rfl⟩:=KW.cD hl;rfl)<;>try k_is
  case DP=>refine' L2.Y7 KX G ["book","shape"] ?_ ?_ ?_ ?_ (λ_ _ _ _ _ _ us hl=>by obtain ⟨_,_,rfl⟩:=KW.cD hl;rfl)<;>try k_is
  case DR=>refine' L2.Y7 KX G ["blocks","number"] ?_ ?_ ?_ ?_ (λ_ _ _ _ _ _ us hl=>by obtain ⟨_,_,rfl⟩:=KW.cD hl;rfl)<;>try k_is
  case ZR | jC | ZW | jD | ZX | ZS | ZY=>refine' L2.XT KX G ["self","size","number"] ?_ ?_ ?_ ?_ ?_ (λ_ _ _ _ _ _ us hl=>by obtain ⟨_,_,_,rfl⟩:=KW.gP hl;rfl)<;>try k_is
  case DW=>refine' L2.Y7 KX G ["maker","size"] ?_ ?_ ?_ ?_ (λ_ _ _ _ _ _ us hl=>by obtain ⟨_,_,rfl⟩:=KW.cD hl;rfl)<;>try k_is
  case DX=>refine' L2.Y7 KX G ["count","most"] ?_ ?_ ?_ ?_ (λ_ _ _ _ _ _ us hl=>by obtain ⟨_,_,rfl⟩:=KW.cD hl;rfl)<;>try k_is
  case DY =>
   refine' L2.Je KX G ["book","shape","size","most"] [.int 400] 3 ?a ?l ?c ?k ?t ?s ?v ?e ?b ?b0;(case a=>k_is);(case l=>k_is);(case c=>k_is);(case k=>k_is);(case t=>k_is);(case s=>rfl);(case v=>exact .cons ⟨_,rfl⟩ (.nil));(case e=>rfl);(case b=>exact λus hl=>match us,hl with | [_,_,_],_=>⟨_,rfl,rfl⟩);(case b0=>exact λus hl=>match us,hl with | [_,_,_,_],_=>⟨_,rfl,rfl⟩)
  case lX=>refine' L2.Y7 KX G ["thing"] ?_ ?_ ?_ ?_ (λ_ _ _ _ _ _ us hl=>by obtain ⟨_,rfl⟩:=KW.lW hl;rfl)<;>try k_is
  case jJ=>refine' L2.Y7 KX G ["judge","value"] ?_ ?_ ?_ ?_ (λ_ _ _ _ _ _ us hl=>by obtain ⟨_,_,rfl⟩:=KW.cD hl;rfl)<;>try k_is
  case iY =>
   refine' L2.Je KX G ["book","shape","size","judge","most"] [.int 400] 4 ?a ?l ?c ?k ?t ?s ?v ?e ?b ?b0;(case a=>k_is);(case l=>k_is);(case c=>k_is);(case k=>k_is);(case t=>k_is);(case s=>rfl);(case v=>exact .cons ⟨_,rfl⟩ (.nil));(case e=>rfl);(case b=>exact λus hl=>match us,hl with | [_,_,_,_],_=>⟨_,rfl,rfl⟩);(case b0=>exact λus hl=>match us,hl with | [_,_,_,_,_],_=>⟨_,rfl,rfl⟩)
  case Ea=>refine' L2.Y7 KX G ["_law_signs","_law_size_here"] ?_ ?_ ?_ ?_ (λ_ _ _ _ _ _ us hl=>by obtain ⟨_,_,rfl⟩:=KW.cD hl;rfl)<;>try k_is
  case Eb=>refine' L2.Y7 KX G ["_law_low","_law_high","_law_size_here"] ?_ ?_ ?_ ?_ (λ_ _ _ _ _ _ us hl=>by obtain ⟨_,_,_,rfl⟩:=KW.gP hl;rfl)<;>try k_is
  case nY=>refine' L2.Y7 KX G ["_law_book","_law_parts","_law_size_here"] ?_ ?_ ?_ ?_ (λ_ _ _ _ _ _ us hl=>by obtain ⟨_,_,_,rfl⟩:=KW.gP hl;rfl)<;>try k_is
  case nZ=>refine' L2.Y7 KX G ["_law_book","_law_part","_law_size_here"] ?_ ?_ ?_ ?_ (λ_ _ _ _ _ _ us hl=>by obtain ⟨_,_,_,rfl⟩:=KW.gP hl;rfl)<;>try k_is
  case lY=>refine' L2.Y7 KX G ["_law_book","_law_shape_here","_law_size_here"] ?_ ?_ ?_ ?_ (λ_ _ _ _ _ _ us hl=>by obtain ⟨_,_,_,rfl⟩:=KW.gP hl;rfl)<;>try k_is
  case Ec=>refine' L2.Y7 KX G ["_law_script","_law_k"] ?_ ?_ ?_ ?_ (λ_ _ _ _ _ _ us hl=>by obtain ⟨_,_,rfl⟩:=KW.cD hl;rfl)<;>try k_is
  case Ed=>refine' L2.Y7 KX G ["_law_cell","_law_k"] ?_ ?_ ?_ ?_ (λ_ _ _ _ _ _ us hl=>by obtain ⟨_,_,rfl⟩:=KW.cD hl;rfl)<;>try k_is
  case Ef=>refine' L2.Y7 KX G ["_law_cell"] ?_ ?_ ?_ ?_ (λ_ _ _ _ _ _ us hl=>by obtain ⟨_,rfl⟩:=KW.lW hl;rfl)<;>try k_is
  case n6=>refine' L2.Y7 KX G ["_law_script","_law_deep","_law_at","_law_name_here"] ?_ ?_ ?_ ?_ (λ_ _ _ _ _ _ us hl=>by obtain ⟨_,_,_,_,rfl⟩:=KW.Dj hl;rfl)<;>try k_is
  case Eh=>refine' L2.Y7 KX G ["_law_book","_law_shape_here","_law_want","_law_most"] ?_ ?_ ?_ ?_ (λ_ _ _ _ _ _ us hl=>by obtain ⟨_,_,_,_,rfl⟩:=KW.Dj hl;rfl)<;>try k_is
  case lZ | j6=>refine' L2.Y7 KX G ["_law_one","_law_other"] ?_ ?_ ?_ ?_ (λ_ _ _ _ _ _ us hl=>by obtain ⟨_,_,rfl⟩:=KW.cD hl;rfl)<;>try k_is
  case Ei =>
   refine' L2.YgC KX G ["_law_due","_law_script","_law_turn"] ?a ?l ?c ?k ?e (λ_ _ _ _ _ _ us hl=>by obtain ⟨_,_,_,rfl⟩:=KW.gP hl;rfl);(case a=>k_is);(case l=>k_is);(case c=>k_is);(case k=>k_is);(case e=>rfl)
  case Za=>refine' ⟨?_,?_,?_,?_⟩<;>try k_is
  case Zw | Zx | Zk=>refine' L2.Xr ?_<;>try k_is
  case ZL=>refine' ⟨?_,?_,?_,?_⟩<;>try k_is
  case ZG | ZI | ZT=>refine' L2.Xr ?_<;>try k_is
  case ZH=>refine' ⟨?_,?_,?_,?_⟩<;>try k_is
  case ZJ | Zu=>refine' L2.Xr ?_<;>try k_is
  case Zc=>refine' ⟨?_,?_,?_,?_⟩<;>try k_is
  case Zq | Zt=>refine' L2.Xr ?_<;>try k_is
  case Zb=>refine' ⟨?_,?_,?_,?_⟩<;>try k_is
  case Zp | Zs | Zm=>refine' L2.Xr ?_<;>try k_is
  case Zf=>refine' ⟨?_,?_,?_,?_⟩<;>try k_is
  case ZC | ZE | ZB=>refine' L2.Xr ?_<;>try k_is
  case Zj=>refine' ⟨?_,?_,?_,?_⟩<;>try k_is
  case Zo | Zi=>refine' L2.Xr ?_<;>try k_is
  case Zd=>refine' ⟨?_,?_,?_,?_⟩<;>try k_is
  case Zz | Zr=>refine' L2.Xr ?_<;>try k_is
  case Ze=>refine' ⟨?_,?_,?_,?_⟩<;>try k_is
  case Zv | Zn=>refine' L2.Xr ?_<;>try k_is
  case Z8=>refine' ⟨?_,?_,?_,?_⟩<;>try k_is
  case Zh | ZD | Zy=>refine' L2.Xr ?_<;>try k_is
  case qF =>
   refine' L2.Ygv KX G ?a ?l ?z ?r;(case a=>k_is);(case l=>k_is);(case z=>decide);(case r=>exact (.cons ⟨_,rfl⟩ (.cons ⟨_,rfl⟩ (.cons ⟨_,rfl⟩ .nil))))
  case cG | bZ | nH | iw | ZF | ao | bx | cI | eG | Zg | jq | cF=>refine' PySem.W.mg_none_of KX G ?_<;>try k_is
