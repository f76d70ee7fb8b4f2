import PyProof.Rows.All
import Wide.FinOn
import OpenK.KMake
import OpenK.KLine
import KE.IntBitsLaws
import KE.KEqDict
import KE.KLam
import KE.KNestM
import KE.KTryMore
import KE.KTryOn
import KE.RegKIsAll
import KE.RegKTryMore
import PyProof.ExcBaseAll.ValueError
import PyProof.ExcArgsOwn
import PyProof.TupleCall
import PyProof.CollectIter
import PyProof.CallFns
import KE.KItem
import KE.LcSums
import KE.KItemsList
import PySem.Challenge.RW_countgen_k84_whole_deeds_shrunk
set_option compiler.extract_closed false
open PySem renaming Value→Α,PyData→Β,Shared→Δ,wpAny_bind→Θ,wpAny→Ξ,Program→Ο,starEach→Φ,wpAny_pure→Ψ,model→γ,World→ε,Around→τ,mainGlobals→ba,FuncData→bg,wpAny_mono→bo,compareOp→bt,mem_of_lookup→bu,backTo→bv,wpAny_Call_Name_kw→bz,sliceBounds→bS,wpAny_newObj_type→b9,wpAny_field→cr,Scope→cw,rawInt→cy,wpAny_call_entry→c8,wpAny_callSpecial?_slot→df,sysModules→dq,bootBuiltins→dy,wpAny_passesOwn→dC,wpAny_truthy_bool→d4,attributeBase→er,wpAny_specialOf→ez,wpAny_seqItems→eL,wpAny_newFunctionEnv→eS,keywordEach→e9,letOwnedTupleGo→fk,bindArgs→fo,binaryOp→fq,NameKind→ft,codeAny_mono→fA,getItem→fT,codeAny→f6,builtinsNs→f8,assignEach→ge,wpAny_pyIter_enum→gh,IsRangeIter→gu,compEnvC→gz,wpAny_execs_cons→gV,Arguments→hV,closureFor→ib,wpAny_execs_nil→ic,Keyword→iq,backToKw→ir,firstArgMember→iA,evalPart_some→iF,evalPart_none→iL,behindInMarks→iN,wpAny_rule→iX,sliceRange→i3
open List renaming length_map→Ε,length_append→Ζ,getElem?_eq_some_iff→Ι,getElem?_map→Ν,mem_of_getElem?→Τ,mem_cons→Υ,getElem?_eq_getElem→Χ,length_singleton→δ,mem_append→η,lookup_cons→θ,length_take→ι,size_toArray→ν,map_append→ξ,mem_singleton→ς,map_cons→af,getElem?_append_left→ag,range→ai,length_cons→am,mem_append_right→ap,getElem?_append_right→ar,mem_map→aw,append_nil→ay,Nodup→aI,nodup_cons→aS,not_mem_nil→a7,length_drop→a8,take_of_length_le→a9,find?_cons→bn,mem_cons_of_mem→bq,lookup→b7,mem_range→b8,append_assoc→ca,getElem?_range→ce,filterMap_cons→ci,nodup_append→cz,length_range→cE,mem_map_of_mem→cS,map_nil→c6,take_length→c9,map_map→dA,range_succ→dL,of_mem_zip→dP,length_replicate→dQ,getD_eq_getElem?_getD→d3,drop_of_length_le→eJ,mem_of_mem_take→eT,mem_of_mem_drop→eW,mem_append_left→e8,mem_cons_self→fF,filter_append→fI,drop_sublist→gi,sum_cons→gy,sum_append→ij,length_nil→ik,any_cons→iS
open PySem.Heap renaming get?_push_of_some→Η,lt_size→Ρ,get?_push_size→Ω,SameBut→cp,size_push→di,get?_update_other→du,get?_update_self→dS
open PySem.W renaming Frag→Κ,fnOf→c5,kia_one→ee,keepIn→ef,callWith_K→eB,findIn→eC,emptyDict→eI,tabObj→eM,CodeHd→eP,instObj→fw,codeIn→gf,kla_fn→ix,mg_of→iO,nsIn→i8
open Option.some renaming inj→Λ
open Nat renaming le_refl→Μ,lt_of_lt_of_le→ρ,ne_of_lt→υ,le_trans→ah,zero_le→az,lt_irrefl→de,sub_self→ei,ne_of_gt→ek,mul_le_mul_left→eo,le_of_lt→eK,min_eq_left→fm,add_assoc→iP,mul_succ→i9,mod_lt→jv
open Bool renaming false_ne_true→ζ,false_eq_true→cq,and_eq_true→dm,eq_iff_iff→ip
open Option renaming map_eq_some_iff→ο,map_some→ie
open PySem.PyData renaming depthAll→χ,depth→aE,list→c4,eqv→db,canLayAll0→d5,canLay0→eg,strOk→fE,eqvAll→gv
open PySem.Builtin.Range renaming rangeSize→ψ,small→fg
open Ne renaming symm→ω
open PySem.NameKind renaming free→aa,cell→et
open PySem.Value renaming ref→ac,none→bE,type→eQ,str→iE,bool→i4,int→jn
open PySem.PassesOwn renaming never→ae
open PySem.F renaming plainAttrs_list→bb,slot_list_append→bc,type_list_append→bj
open PyProof.Rows renaming callWith_type1→be,slot_tupleiter_next→fc,AllBare→f7,IsTupIter→hR,envOfC→ia,Subscript_→i5
open False renaming elim→bi
open PySem.Str renaming ofString→bp
open PySem.Builtin.SmallTypes renaming nextOf→br
open PySem.Builtin.Tuple renaming tupleHashOf→ck,tupleExact→en
open Int renaming natCast_add→cK,toNat_natCast→d6,natAbs_natCast→fN,natCast_mul→im,emod_nonneg→io,zero_add→ja,toNat→jp
open True renaming intro→da
open PySem.Builtin.Slice renaming slicePlaces→ed
open ForInStep renaming yield→eA
open PySem.Obj renaming mapSeq→eR
open PySem.Builtin.Int renaming intBits→fh
open PySem.Sem renaming wp→gt,bind→gN
open Sum renaming inr→i6,inl→i7
open PySem.Code renaming isFrame→jb
open PySem.Around renaming under→jj
open PySem.Data renaming fields→js
set_option Elab.async false
set_option linter.all false
set_option maxRecDepth 100000
namespace L2
open PySem PySem.Spec PyProof.Rows
abbrev Key:=Sum Int Str
def VO:Key->Α->Bool
 | .inl k,v=>Value.isInt k v
 | .inr x,v=>Value.isStrOf x v
def Mt (w:ε):Key->Int
 | .inl k=>hashInt k
 | .inr x=>hashStr w x
theorem Xi:∀ {k:Key} {v:Α},VO k v=true->(∃ i t,k=i7 i/\v=jn i t)\/(∃ x t,k=i6 x/\v=iE x t)
 | .inl i,v,h=>by
  obtain ⟨t,e⟩:=Value.isInt_shape (k:=i) (v:=v) h;exact .inl ⟨i,t,rfl,e⟩
 | .inr x,v,h=>by
  obtain ⟨t,e⟩:=Value.isStrOf_shape (x:=x) (v:=v) h;exact .inr ⟨x,t,rfl,e⟩
theorem Ot (i:Int) (t:Tok):VO (.inl i) (.int i t)=true:=by simp [VO,Value.isInt]
theorem Ou (x:Str) (t:Tok):VO (.inr x) (.str x t)=true:=by simp [VO,Value.isStrOf]
theorem Ov (a b:Int):decide ((i7 a:Key)=i7 b)=(a==b):=by
 by_cases e:a=b
 ·subst e;simp
 ·have h:¬ (i7 a:Key)=i7 b:=fun q=>e (Sum.inl.inj q)
  rw [decide_eq_false h];exact (beq_eq_false_iff_ne.mpr e).symm
theorem Ow (a b:Str):decide ((i6 a:Key)=i6 b)=decide (a=b):=by
 by_cases e:a=b
 ·subst e;simp
 ·have h:¬ (i6 a:Key)=i6 b:=fun q=>e (Sum.inr.inj q)
  rw [decide_eq_false h,decide_eq_false e]
theorem Ox (a:Int) (b:Str):decide ((i7 a:Key)=i6 b)=false:=decide_eq_false (fun q=>nomatch q)
theorem Oz (a:Str) (b:Int):decide ((i6 a:Key)=i7 b)=false:=decide_eq_false (fun q=>nomatch q)
def Y3 (prog:Ο) (w:ε):PySem.KeyKind prog w Key where
 is:=VO
 hash:=Mt w
 inj:=fun v a b ha hb=>by
  rcases Xi ha with ⟨i,t,rfl,rfl⟩ | ⟨x,t,rfl,rfl⟩
  ·rcases Xi hb with ⟨j,u,rfl,e⟩ | ⟨y,u,rfl,e⟩
   ·injection e with e1 _;rw [e1]
   ·exact nomatch e
  ·rcases Xi hb with ⟨j,u,rfl,e⟩ | ⟨y,u,rfl,e⟩
   ·exact nomatch e
   ·injection e with e1 _;rw [e1]
 byValue:=fun k v h=>by
  rcases Xi h with ⟨i,t,rfl,rfl⟩ | ⟨x,t,rfl,rfl⟩<;>rfl
 pyHash:=fun hv h=>by
  rcases Xi hv with ⟨i,t,rfl,rfl⟩ | ⟨x,t,rfl,rfl⟩
  ·exact wpAny_pyHash_int h
  ·exact wpAny_pyHash_str h
 eqBool:=fun hu hv h=>by
  rcases Xi hu with ⟨i,t,rfl,rfl⟩ | ⟨x,t,rfl,rfl⟩
  ·rcases Xi hv with ⟨j,u,rfl,rfl⟩ | ⟨y,u,rfl,rfl⟩
   ·rw [Ov] at h;exact wpAny_eqBool_int h
   ·rw [Ox] at h;exact SeqAt.EqAt.int_str i t y u _ _ _ _ h
  ·rcases Xi hv with ⟨j,u,rfl,rfl⟩ | ⟨y,u,rfl,rfl⟩
   ·rw [Oz] at h;exact SeqAt.EqAt.str_int x t j u _ _ _ _ h
   ·rw [Ow] at h;exact wpAny_eqBool_str h
 «strs»:=fun k x t v h=>by
  rcases Xi h with ⟨i,u,rfl,e⟩ | ⟨y,u,rfl,e⟩
  ·exact nomatch e
  ·injection e with e1 _
   subst e1
   cases v<;>rfl
theorem OD (prog:Ο) (w:ε) (i:Int) (t:Tok):(Y3 prog w).is (.inl i) (.int i t)=true:=Ot i t
theorem OJ (prog:Ο) (w:ε) (x:Str) (t:Tok):(Y3 prog w).is (.inr x) (.str x t)=true:=Ou x t
inductive V where
 | non | bl (b:Bool) | int (i:Int) | str (x:Str) | d9 (b:Array UInt8) | flt (b:UInt64) | ref (a:Addr) | ty (n:String)
 deriving DecidableEq
def YA:V->Α->Prop
 | .non,u=>u=bE
 | .bl b,u=>u=i4 b
 | .int i,u=>∃ t,u=jn i t
 | .str x,u=>∃ t,u=iE x t
 | .d9 b,u=>∃ t,u=Value.bytes b t
 | .flt b,u=>∃ t,u=Value.float b t
 | .ref a,u=>u=ac a
 | .ty n,u=>u=eQ n
abbrev Yw:List V->List Α->Prop:=Paired YA
theorem Yw.length {xs:List V} {us:List Α} (r:Yw xs us):xs.length=us.length:=Paired.length r
theorem Yw.get:∀ {xs:List V} {us:List Α} {i:Nat} {x:V},Yw xs us->xs[i]?=some x->∃ u,us[i]?=some u/\YA x u
 | _,_,_,_,.nil,e=>by simp at e
 | _,_,0,_,.cons r _,e=>by simp at e;subst e;exact ⟨_,rfl,r⟩
 | _,_,i+1,x,.cons _ t,e=>by
  obtain ⟨u,h1,h2⟩:=Yw.get (i:=i) (x:=x) t (by simpa using e);exact ⟨u,by simpa using h1,h2⟩
theorem Yw.append:∀ {xs ys:List V} {us ws:List Α},Yw xs us->Yw ys ws->Yw (xs++ys) (us++ws)
 | _,_,_,_,.nil,s=>s
 | _,_,_,_,.cons r t,s => .cons r (Yw.append t s)
theorem Yw.take:∀ {xs:List V} {us:List Α} (n:Nat),Yw xs us->Yw (xs.take n) (us.take n)
 | _,_,0,_ => .nil
 | _,_,_+1,.nil => .nil
 | _,_,n+1,.cons r t => .cons r (Yw.take n t)
theorem Yw.drop:∀ {xs:List V} {us:List Α} (n:Nat),Yw xs us->Yw (xs.drop n) (us.drop n)
 | _,_,0,r=>r
 | _,_,_+1,.nil => .nil
 | _,_,n+1,.cons _ t=>Yw.drop n t
theorem Yw.none_of:∀ {xs:List V} {us:List Α} {i:Nat},Yw xs us->xs[i]?=none->us[i]?=none:=fun {xs us i} r e=>by
 have h1:=r.length;have h2:xs.length<=i:=List.getElem?_eq_none_iff.mp e;exact List.getElem?_eq_none_iff.mpr (by omega)
def X3:Option V->Option Α->Prop
 | some v,some u=>YA v u
 | none,none=>True
 | _,_=>False
def KV {κ:Type}:List (κ×V)->List (κ×Α)->Prop:=Paired fun (p:κ×V) (q:κ×Α)=>p.1=q.1/\YA p.2 q.2
def kV:Key->V
 | .inl i => .int i
 | .inr x => .str x
inductive HO where
 /-- a list -/
 | lst (xs:List V)
 /-- a tuple (never changes) -/
 | tup (xs:List V)
 /-- a dict whose keys are ints and texts;one whose keys are tuples of ints and texts (the empty one is both) -/
 | dK (kvs:List (Key×V)) | dT (kvs:List (List Key×V))
 /-- a set of ints: its members,its size -/
 | set (S:Int->Bool) (n:Nat)
 /-- an instance of the class at C,its dict at dx,its attributes -/
 | ins (C dx:Addr) (fs:List (Str×V))
 /-- the dict of the instance at x -/
 | own (x:Addr)
 /-- the dict of an exception -/
 | xd (fs:List (Str×V))
 /-- a bound method,f of x -/
 | met (f x:Addr)
 /-- a range object lo,lo+1,.. below hi -/
 | rng (lo hi:Int)
 /-- a thing that is known to the object (the script;a dict while a loop walks it): read,never written while it is so -/
 | bF (o:Obj) (u:HO)
 /-- a code object's table -/
 | aN (ps:Array Α)
 /-- any other thing,by what is true of its one object (a def of one's own: Mu a S n:=HO.ext fun h => ..) -/
 | ext (φ:Heap->Prop)
abbrev Hp:=Addr->Option HO
def upd (H:Hp) (a:Addr) (o:HO):Hp:=fun b=>if b=a then some o else H b
theorem Yb {H:Hp} {a:Addr} {o:HO}:upd H a o a=some o:=by unfold upd;rw [if_pos rfl]
theorem Yg {H:Hp} {a b:Addr} {o:HO} (h:b≠a):upd H a o b=H b:=by unfold upd;rw [if_neg h]
theorem YI {H:Hp} {a b:Addr} {o u:HO} (h:H a=some o) (h':H b=some u) (d:o≠u):a≠b:=by
 intro e;subst e;rw [h] at h';exact d (Λ h')
theorem Yj {H:Hp} {a b:Addr} {o:HO} (h:H a=some o) (h':H b=none):a≠b:=by
 intro e;subst e;rw [h] at h';cases h'
section
variable (P:Ο) (w:ε)
def YN (H:Hp) (h:Heap) (a:Addr):HO->Prop
 | .lst xs=>xs.length<=sizeLine/\∃ (its:List Α) (n:Nat),Yw xs its/\h.get? a=some { cls := .type "list",data := .seq its.toArray n }
 | .tup xs=>xs.length<=sizeLine/\∃ its:List Α,Yw xs its/\IsTup h a its.toArray
 | .dK kvs=>kvs.length<=sizeLine/\(a==dq)=false/\∃ vs,KV kvs vs/\h.DictOf (Y3 P w) a vs
 | .dT kvs=>kvs.length<=sizeLine/\(a==dq)=false/\∃ xs:List (List Key×Addr×Α),
   Paired (fun (p:List Key×V) (q:List Key×Addr×Α)=>p.1=q.1/\H q.2.1=some (.tup (p.1.map kV))/\YA p.2 q.2.2) kvs xs /\
   ∃ o es ep,h.get? a=some o/\o.ExactDict/\o.data = .dict es ep/\es.toList=xs.map (entryOfKey (tupleKind (Y3 P w)))/\(xs.map (·.1)).Nodup
 | .set S n=>h.SetOf (intKind P w) a S n
 | .ins C dx fs=>H dx=some (.own a)/\fs.length<=1000/\dx≠a/\h.get? a=some (fw C dx) /\
   ∃ mA,h.Ns1 dx mA/\(∀ f,X3 (fs.lookup f) (mA f))/\PySem.Within mA (fs.map (·.1))
 | .own _=>∃ o,h.get? a=some o
 | .xd fs=>∃ mA,h.Ns1 a mA/\∀ f,X3 (fs.lookup f) (mA f)
 | .rng lo hi=>∃ t u v,h.get? a=some { cls := .type "range",data := .fields #[.int lo t,.int hi u,.int 1 v] }
 | .bF o u=>h.get? a=some o/\YN H h a u
 | .aN ps=>h.get? a=some { cls := .none,data := .fields ps }
 | .met f x=>h.get? a=some (W.methodObj (.ref f) (.ref x))
 | .ext φ=>φ h/\(∃ o,h.get? a=some o)/\∀ h1 h2:Heap,φ h1->(∀ o,h1.get? a=some o->h2.get? a=some o)->φ h2
def aX (H:Hp) (h:Heap):Prop:=∀ a o,H a=some o->YN P w H h a o
end
section
variable {P:Ο} {w:ε} {H H':Hp} {h h':Heap} {a:Addr} {o:HO}
theorem YN.lt (x:YN P w H h a o):a<h.objs.size:=by
 cases o with
 | lst xs=>obtain ⟨_,_,_,_,e⟩:=x;exact Ρ e
 | tup xs=>obtain ⟨_,_,_,p⟩:=x;exact p.lt
 | dK kvs=>obtain ⟨_,_,_,_,o,_,_,e,_⟩:=x;exact Ρ e
 | dT kvs=>obtain ⟨_,_,_,_,o,_,_,e,_⟩:=x;exact Ρ e
 | set S n=>obtain ⟨o,_,_,_,e,_⟩:=x;exact Ρ e
 | ins C dx fs=>obtain ⟨_,_,_,e,_⟩:=x;exact Ρ e
 | own y=>obtain ⟨_,e⟩:=x;exact Ρ e
 | xd fs=>obtain ⟨_,⟨_,_,_,e,_⟩,_⟩:=x;exact Ρ e
 | rng lo hi=>obtain ⟨_,_,_,e⟩:=x;exact Ρ e
 | bF ob u=>obtain ⟨e,_⟩:=x;exact Ρ e
 | aN ps=>exact Ρ (show h.get? a=some _ from x)
 | met f y=>exact Ρ (show h.get? a=some _ from x)
 | ext φ=>obtain ⟨_,⟨_,e⟩,_⟩:=x;exact Ρ e
theorem Paired.vD {α β:Type} {F G:α->β->Prop}:∀ {l₁:List α} {l₂:List β},Paired F l₁ l₂->(∀ a b,F a b->G a b)->Paired G l₁ l₂
 | _,_,.nil,_ => .nil
 | _,_,.cons r t,f => .cons (f _ _ r) (Paired.vD t f)
theorem YN.stay (x:YN P w H h a o) (k:∀ b u,(b=a\/H b=some (.own a))->h.get? b=some u->h'.get? b=some u)
  (ho:∀ b,H b=some (.own a)->H' b=some (.own a)) (ht:∀ b xs,H b=some (.tup xs)->H' b=some (.tup xs)):YN P w H' h' a o:=by
 induction o with
 | lst xs=>obtain ⟨z,its,n,r,e⟩:=x;exact ⟨z,its,n,r,k _ _ (.inl rfl) e⟩
 | tup xs=>obtain ⟨z,its,r,ob,e,c⟩:=x;exact ⟨z,its,r,ob,k _ _ (.inl rfl) e,c⟩
 | dK kvs=>obtain ⟨z,y,vs,r,ob,es,ep,e,c⟩:=x;exact ⟨z,y,vs,r,ob,es,ep,k _ _ (.inl rfl) e,c⟩
 | dT kvs =>
  obtain ⟨z,y,xs,r,ob,es,ep,e,c⟩:=x;exact ⟨z,y,xs,Paired.vD r fun p q z=>⟨z.1,ht _ _ z.2.1,z.2.2⟩,ob,es,ep,k _ _ (.inl rfl) e,c⟩
 | set S n=>obtain ⟨ob,es,ep,t,e,c⟩:=x;exact ⟨ob,es,ep,t,k _ _ (.inl rfl) e,c⟩
 | ins C dx fs =>
  obtain ⟨d,z,ne,e,mA,⟨od,es,ep,e2,c⟩,r⟩:=x;exact ⟨ho _ d,z,ne,k _ _ (.inl rfl) e,mA,⟨od,es,ep,k _ _ (.inr d) e2,c⟩,r⟩
 | own y=>obtain ⟨ob,e⟩:=x;exact ⟨ob,k _ _ (.inl rfl) e⟩
 | xd fs=>obtain ⟨mA,⟨od,es,ep,e,c⟩,r⟩:=x;exact ⟨mA,⟨od,es,ep,k _ _ (.inl rfl) e,c⟩,r⟩
 | rng lo hi=>obtain ⟨t,u,v,e⟩:=x;exact ⟨t,u,v,k _ _ (.inl rfl) e⟩
 | bF ob u ih=>obtain ⟨e,q⟩:=x;exact ⟨k _ _ (.inl rfl) e,ih q⟩
 | aN ps =>
  have e:h.get? a=some { cls := .none,data := .fields ps }:=x
  show h'.get? a=some { cls := .none,data := .fields ps }
  exact k a _ (.inl rfl) e
 | met f y =>
  have e:h.get? a=some (W.methodObj (.ref f) (.ref y)):=x
  show h'.get? a=some (W.methodObj (.ref f) (.ref y))
  exact k a _ (.inl rfl) e
 | ext φ=>obtain ⟨p,⟨o,e⟩,st⟩:=x;exact ⟨st _ _ p fun o q=>k _ _ (.inl rfl) q,⟨o,k _ _ (.inl rfl) e⟩,st⟩
theorem aX.lt (x:aX P w H h) (e:H a=some o):a<h.objs.size:=(x a o e).lt
theorem aX.fresh (x:aX P w H h) (e:h.objs.size<=a):H a=none:=by
 cases q:H a with
 | none=>rfl
 | some u=>exact absurd (ρ (x.lt q) e) (de _)
theorem aX.kept (x:aX P w H h) (k:∀ b u,h.get? b=some u->h'.get? b=some u):aX P w H h':=fun a o e =>
 (x a o e).stay (fun b u _ q=>k b u q) (fun _ q=>q) fun _ _ q=>q
theorem aX.laid (x:aX P w H h) (k:∀ b u,h.get? b=some u->h'.get? b=some u) (hp:h.objs.size<=a) (new:YN P w (upd H a o) h' a o):aX P w (upd H a o) h':=fun b u e=>by
 have hn:=x.fresh hp;by_cases hb:b=a
 ·subst hb;rw [Yb] at e;cases e;exact new
 ·rw [Yg hb] at e
  exact (x b u e).stay (fun c v _ q=>k c v q) (fun c q=>by rw [Yg (Yj q hn)];exact q) fun c xs q=>by rw [Yg (Yj q hn)];exact q
end
def Rd (H:Hp) (a:Addr) (u:HO):Prop:=H a=some u\/∃ o,H a=some (.bF o u)
theorem Rd.ok {P:Ο} {w:ε} {H:Hp} {h:Heap} {a:Addr} {u:HO} (r:Rd H a u) (x:aX P w H h):YN P w H h a u:=by
 rcases r with r | ⟨o,r⟩
 ·exact x a u r
 ·obtain ⟨_,q⟩:=x a _ r
  exact q
def oh:Option HO->Prop
 | some (.lst _)=>True
 | some (.dK _)=>True
 | some (.dT _)=>True
 | some (.set _ _)=>True
 | some (.ins _ _ _)=>True
 | some (.ext _)=>True
 | _=>False
section
variable {P:Ο} {w:ε} {H:Hp} {h h':Heap} {x e:Addr} {o':HO}
theorem aX.write (ok:aX P w H h) (mu:oh (H x)) (he:e=x\/H e=some (.own x)) (k:∀ b u,b≠e->h.get? b=some u->h'.get? b=some u) (heo:∃ u,h'.get? e=some u)
  (new:YN P w (upd H x o') h' x o'):aX P w (upd H x o') h':=fun b u q=>by
 have vG:∀ c y,H c=some (.own y)->c≠x:=fun c y r z=>by subst z;rw [r] at mu;exact mu
 have Mv:∀ c xs,H c=some (.tup xs)->c≠x:=fun c xs r z=>by subst z;rw [r] at mu;exact mu
 by_cases hb:b=x
 ·subst hb;rw [Yb] at q;cases q;exact new
 ·rw [Yg hb] at q
  by_cases hbe:b=e
  ·have q':H b=some (.own x):=by
    rcases he with z | z
    ·exact absurd (hbe.trans z) hb
    ·rw [hbe];exact z
   rw [q] at q';cases q'
   obtain ⟨v,hv⟩:=heo;exact ⟨v,by rw [hbe];exact hv⟩
  ·refine (ok b u q).stay (fun c v hc r=>k c v ?_ r) (fun c r=>by rw [Yg (vG c b r)];exact r) fun c xs r=>by rw [Yg (Mv c xs r)];exact r
   rcases hc with rfl | hc
   ·exact hbe
   ·rintro rfl
    rcases he with z | z
    ·exact vG c b hc z
    ·rw [hc] at z;cases z;exact hb rfl
end
structure Un (fs ex:List Addr) (H H':Hp) (h h':Heap):Prop where
 keep:∀ b o,h.get? b=some o->H b=none->b∉fs->b∉ex->h'.get? b=some o
 slot:∀ b o,h.get? b=some o->H b=none->b∈fs->b∉ex->∃ sl,h'.get? b=some { o with slots:=sl }
 free:∀ b o,h.get? b=some o->H b=none->b∉ex->H' b=none
 there:∀ b o,h.get? b=some o->b∉ex->∃ o',h'.get? b=some o'
 tups:∀ b xs,H b=some (.tup xs)->H' b=some (.tup xs)
 bI:∀ b o u,H b=some (.bF o u)->H' b=some (.bF o u)
 bU:∀ b ps,H b=some (.aN ps)->∃ more,H' b=some (.aN (ps++more))
section
variable {fs fs' ex ex':List Addr} {H H1 H2:Hp} {h h1 h2 h':Heap} {a x e:Addr} {o:HO}
theorem Un.any (u:Un fs ex H H1 h h1) {b:Addr} {ob:Obj} (q:h.get? b=some ob) (n:H b=none) (hx:b∉ex):∃ sl,h1.get? b=some { ob with slots:=sl }:=by
 by_cases hb:b∈fs
 ·exact u.slot b ob q n hb hx
 ·exact ⟨ob.slots,u.keep b ob q n hb hx⟩
theorem Un.kept (k:∀ b u,h.get? b=some u->h'.get? b=some u):Un fs ex H H h h' :=
 ⟨fun b ob q _ _ _=>k b ob q,fun b ob q _ _ _=>⟨ob.slots,k b ob q⟩,fun _ _ _ n _=>n,fun b ob q _=>⟨ob,k b ob q⟩,fun _ _ q=>q,fun _ _ _ q=>q,fun _ ps q=>⟨#[],by rw [q];simp⟩⟩
theorem Un.refl:Un fs ex H H h h:=Un.kept fun _ _ q=>q
theorem Un.laid (k:∀ b u,h.get? b=some u->h'.get? b=some u) (hp:h.objs.size<=a) (hn:H a=none):Un fs ex H (upd H a o) h h' where
 keep:=fun b u q _ _ _=>k b u q
 slot:=fun b u q _ _ _=>⟨u.slots,k b u q⟩
 free:=fun b u q n _=>by rw [Yg (υ (ρ (Ρ q) hp))];exact n
 there:=fun b u q _=>⟨u,k b u q⟩
 tups:=fun b xs q=>by rw [Yg (Yj q hn)];exact q
 bI:=fun b u xs q=>by rw [Yg (Yj q hn)];exact q
 bU:=fun b ps q=>⟨#[],by rw [Yg (Yj q hn),q];simp⟩
theorem Un.write (mu:oh (H x)) (he:e=x\/H e=some (.own x)) (k:∀ b u,b≠e->h.get? b=some u->h'.get? b=some u) (heo:∃ u,h'.get? e=some u):Un fs ex H (upd H x o) h h':=by
 have hx:∀ b,H b=none->b≠x:=fun b n z=>by subst z;rw [n] at mu;exact mu
 have hb:∀ b,H b=none->b≠e:=fun b n z=>by
  subst z;rcases he with r | r
  ·exact hx b n r
  ·rw [n] at r;cases r
 have hm:∀ b u,H b=some u->¬ oh (some u)->b≠x:=fun b u q nm z=>by subst z;rw [q] at mu;exact nm mu
 refine ⟨fun b u q n _ _=>k b u (hb b n) q,fun b u q n _ _=>⟨u.slots,k b u (hb b n) q⟩,fun b u q n _=>by rw [Yg (hx b n)];exact n,fun b u q _=>?_,
  fun b xs q=>by rw [Yg (hm b _ q fun z=>z)];exact q,fun b u xs q=>by rw [Yg (hm b _ q fun z=>z)];exact q,fun b ps q=>⟨#[],by rw [Yg (hm b _ q fun z=>z),q];simp⟩⟩
 by_cases hbe:b=e
 ·subst hbe;exact heo
 ·exact ⟨u,k b u hbe q⟩
end
def rH (h:Heap) (H:Hp):List Addr:=(ai h.objs.size).filter fun a=>(H a).isSome
def WF (h:Heap) (H:Hp):Heap:=W.hideAll h (rH h H)
theorem O1 (h:Heap) (H:Hp):(WF h H).objs.size=h.objs.size:=W.hideAll_size _ _
theorem O2 {h:Heap} {H:Hp} {b:Addr} {o:Obj} (e:h.get? b=some o) (n:H b=none):(WF h H).get? b=some o :=
 W.hideAll_get _ e fun hm=>by
  have q:(H b).isSome=true:=(List.mem_filter.mp hm).2;rw [n] at q;simp at q
theorem O4 {h:Heap} {H:Hp} {b:Addr} {o:Obj} (e:(WF h H).get? b=some o):h.get? b=some o/\H b=none:=by
 have e':h.get? b=some o:=W.of_hideAll (rH h H) e;refine ⟨e',?_⟩
 cases q:H b with
 | none=>rfl
 | some x =>
  have hm:b∈rH h H:=List.mem_filter.mpr ⟨b8.mpr (Ρ e'),by simp [q]⟩;have z:(WF h H).get? b=none:=W.hideAll_none (rH h H) hm;rw [z] at e;cases e
def O5 (g h:Heap) (L:Addr):List (Addr×Obj):=(ai h.objs.size).filterMap fun a=>if a=L\/(g.get? a).isSome=true then none else (h.get? a).map fun o=>(a,o)
def Xd (g h:Heap) (L d:Addr):List (Addr×Obj):=(O5 g h L).filter fun p=>decide (p.1≠d)
structure Mod (K:Κ) (mg:Str->Option Α) (base:Heap):Prop where
 iD:K.In base
 glob:base.Ns ba mg
 blt:∃ mb,base.Ns f8 mb/\∀ x:Str,x≠"__name__"->mb x=dy x
 nolimit:base.NoLimit
structure Cx where
 prog:Ο
 w:ε
 K:Κ
 mg:Str->Option Α
 base:Heap
 A:τ
 N:List Str
 s₀:Δ
 H₀:Hp
 env:Env
 outer:List Env
 stack:List Env
 ex:List Addr
 fn:Str->Bool
 calm:Bool
 pn:List (Addr×Obj)
 xe:Α->Δ->Prop
def frs (l:List Env):List Addr:=l.filterMap (·.frame)
abbrev Cx.fs (X:Cx):List Addr:=frs X.outer
def ou (sc:cw) (x:Str):Prop:=sc.names.lookup x=some .local\/sc.names.lookup x=some .cell\/sc.names.lookup x=some .free
def Loc (sc:cw) (x:Str):Prop:=sc.names.lookup x=some .local\/sc.names.lookup x=some .cell
def Look (env:Env) (h:Heap) (m:Str->Option Α) (x:Str) (u:Α):Prop :=
 (env.kindOf x=some .local/\m x=some u)\/((env.kindOf x=some .cell\/env.kindOf x=some .free)/\∃ c,env.cells.lookup x=some c/\h.IsCell c (some u))
structure Cx.Ok (X:Cx):Prop where
 mod:Mod X.K X.mg X.base
 kind:X.env.scope.kind = .function
 glob:X.env.globals=ba
 blt:X.env.builtins=f8
 above:X.s₀.heap.objs.size<=X.env.locals
 inj:∀ x y c,X.env.cells.lookup x=some c->X.env.cells.lookup y=some c->x=y
 has:∀ x,(X.env.kindOf x=some .cell\/X.env.kindOf x=some .free)->∃ c,X.env.cells.lookup x=some c
 cab:∀ x c,X.fn x=true->X.env.cells.lookup x=some c->X.s₀.heap.objs.size<=c
 hd:X.calm=true->X.A.handled=none
 frames:X.A.frames=some X.stack
 stk:X.stack=X.outer\/(X.stack=X.env::X.outer/\X.env.frame=some X.env.locals)
 Et:∀ b∈X.ex,b≠X.env.locals/\∀ x c,X.env.cells.lookup x=some c->c≠b
 bs:∀ b o,X.base.get? b=some o->X.s₀.heap.get? b=some o/\X.H₀ b=none
 eE:X.base.objs.size<=X.s₀.heap.objs.size
 jw:∀ b o,X.base.get? b=some o->b∉X.ex
 mR:∀ b∈X.ex,b∉X.fs
 cj:X.s₀.heap.FunFrames X.base X.outer
 eG:∀ b∈X.fs,X.H₀ b=none
structure Inv (X:Cx) (pins:List (Addr×Obj)) (σ:List (Option V)) (H:Hp) (s:Δ):Prop where
 ok:X.Ok
 os:s.os=X.s₀.os
 bare:f7 s.gens
 base:Un X.fs X.ex X.H₀ H X.s₀.heap s.heap
 loc:∃ m,s.heap.Ns X.env.locals m/\∀ (i:Nat) (x:Str) (v:V),X.N[i]?=some x->σ[i]?=some (some v)->ou X.env.scope x->∃ u,YA v u/\Look X.env s.heap m x u
 cell:∀ x c,X.env.cells.lookup x=some c->∃ v,s.heap.IsCell c v
 free:H X.env.locals=none
 aZ:∀ x c,X.env.cells.lookup x=some c->H c=none
 pin:∀ p∈X.pn++pins,s.heap.get? p.1=some p.2/\H p.1=none/\p.1≠X.env.locals/\p.1∉X.fs/\∀ v,p.2.data ≠ .cell v
 hok:aX X.prog X.w H s.heap
 len:σ.length=X.N.length
section
variable {X:Cx} {pins:List (Addr×Obj)} {σ:List (Option V)} {H H':Hp} {s:Δ} {h':Heap}
theorem Cx.Ok.Mw (ok:X.Ok) {b:Addr} {o:Obj} (e:X.base.get? b=some o):b∉X.fs:=fun hb=>by
 have:=(ok.cj.mem hb).1;rw [e] at this;cases this
theorem Inv.bs (I:Inv X pins σ H s):∀ b o,X.base.get? b=some o->s.heap.get? b=some o/\H b=none:=fun b o e =>
 ⟨I.base.keep b o (I.ok.bs b o e).1 (I.ok.bs b o e).2 (I.ok.Mw e) (I.ok.jw b o e),I.base.free b o (I.ok.bs b o e).1 (I.ok.bs b o e).2 (I.ok.jw b o e)⟩
theorem Inv.bk (I:Inv X pins σ H s):∀ b o,X.base.get? b=some o->s.heap.get? b=some o:=fun b o e=>(I.bs b o e).1
theorem Inv.mod (I:Inv X pins σ H s):Mod X.K X.mg X.base:=I.ok.mod
theorem Inv.bJ (I:Inv X pins σ H s):X.K.In s.heap:=I.ok.mod.iD.keeps I.bk
theorem Inv.lt (I:Inv X pins σ H s):X.env.locals<s.heap.objs.size:=let ⟨_,hn,_⟩:=I.loc;hn.lt
theorem Inv.sz (I:Inv X pins σ H s):X.s₀.heap.objs.size<=s.heap.objs.size:=ah I.ok.above (eK I.lt)
theorem Inv.Mx (I:Inv X pins σ H s) {a:Addr} (h:s.heap.objs.size<=a):a∉X.fs:=fun hb=>by
 obtain ⟨_,o,ho,_⟩:=I.ok.cj.mem hb;exact absurd (ρ (Ρ ho) (ah I.sz h)) (de _)
theorem Inv.iG (I:Inv X pins σ H s):∀ x c,X.env.cells.lookup x=some c->c≠X.env.locals:=fun x c e z=>by
 obtain ⟨v,o,ho,hd⟩:=I.cell x c e;obtain ⟨m,⟨o',es,ep,ho',hd',_⟩,_⟩:=I.loc;rw [z,ho'] at ho;cases ho;rw [hd'] at hd;cases hd
theorem Inv.cj (I:Inv X pins σ H s):s.heap.FunFrames X.base X.outer:=by
 have all:∀ (l:List Env),(∀ b∈frs l,b∈X.fs)->X.s₀.heap.FunFrames X.base l->s.heap.FunFrames X.base l:=by
  intro l
  induction l with
  | nil=>intro _ _;trivial
  | cons env r ih =>
   intro hs hl;obtain ⟨hk,⟨L,o,hf,hn,ho,hd⟩,hr⟩:=hl;have hL:L∈X.fs:=hs L (by unfold frs;rw [ci,hf];exact fF);obtain ⟨sl,e⟩:=I.base.slot L o ho (I.ok.eG L hL) hL fun z=>I.ok.mR L z hL
   exact ⟨hk,⟨L,_,hf,hn,e,hd⟩,ih (fun b hb=>hs b (by unfold frs;rw [ci,hf];exact bq _ hb)) hr⟩
 exact all X.outer (fun _ hb=>hb) I.ok.cj
theorem Inv.stack (I:Inv X pins σ H s):s.heap.FunFrames X.base X.stack:=by
 rcases I.ok.stk with e | ⟨e,hf⟩
 ·rw [e];exact I.cj
 ·rw [e]
  obtain ⟨m,hn,_⟩:=I.loc;refine .cons (by rw [I.ok.kind];decide) hf hn ?_ I.cj;exact Heap.get?_none_of_le (ah I.ok.eE I.ok.above)
theorem Inv.eH (I:Inv X pins σ H s):∀ b∈frs X.stack,b∈X.env.locals::X.fs:=fun b hb=>by
 rcases I.ok.stk with e | ⟨e,hf⟩
 ·rw [e] at hb;exact bq _ hb
 ·rw [e] at hb
  unfold frs at hb;rw [ci,hf] at hb
  exact hb
theorem Inv.lR (I:Inv X pins σ H s):∀ b∈frs X.stack,H b=none:=fun b hb=>by
 rcases Υ.mp (I.eH b hb) with e | hb
 ·rw [e];exact I.free
 ·obtain ⟨_,o,ho,_⟩:=I.ok.cj.mem hb
  exact I.base.free b o ho (I.ok.eG b hb) fun z=>I.ok.mR b z hb
theorem Inv.step {g':Array GenState} {t':Nat} {d':Drawn} {ch:List Addr} (I:Inv X pins σ H s)
  (hch:∀ b∈ch,(b∈X.ex\/X.s₀.heap.objs.size<=b)/\b≠X.env.locals/\(∀ x c,X.env.cells.lookup x=some c->c≠b)/\∀ p∈X.pn++pins,p.1≠b)
  (keep:∀ b o,b≠X.env.locals->b∉X.fs->b∉ch->s.heap.get? b=some o->H b=none->h'.get? b=some o)
  (slot:∀ b o,b≠X.env.locals->b∈X.fs->b∉ch->s.heap.get? b=some o->H b=none->∃ sl,h'.get? b=some { o with slots:=sl }) (free:∀ b o,b∉ch->s.heap.get? b=some o->H b=none->H' b=none)
  (there:∀ b o,b∉ch->s.heap.get? b=some o->∃ o',h'.get? b=some o')
  (tups:∀ b xs,H b=some (.tup xs)->H' b=some (.tup xs)) (bI:∀ b o u,H b=some (.bF o u)->H' b=some (.bF o u)) (bU:∀ b ps,H b=some (.aN ps)->∃ more,H' b=some (.aN (ps++more)))
  (ns:∀ m,s.heap.Ns X.env.locals m->h'.Ns X.env.locals m) (hok:aX X.prog X.w H' h') (hg:f7 g') :
  Inv X pins σ H' { s with heap:=h',gens:=g',drawn:=d',toks:=t' }:=by
 have Eu:∀ b o,X.s₀.heap.get? b=some o->b≠X.env.locals:=fun b o e=>υ (ρ (Ρ e) I.ok.above)
 have rJ:∀ b o,X.s₀.heap.get? b=some o->b∉X.ex->b∉ch:=fun b o e hx hb=>by
  rcases (hch b hb).1 with z | z
  ·exact hx z
  ·exact absurd (ρ (Ρ e) z) (de _)
 have cellK:∀ x c,X.env.cells.lookup x=some c->∀ v,s.heap.IsCell c v->h'.IsCell c v:=fun x c e v ⟨o,ho,hd⟩=>by
  have oA:c∉ch:=fun z=>(hch c z).2.2.1 x c e rfl
  by_cases hc:c∈X.fs
  ·obtain ⟨sl,q⟩:=slot c o (I.iG x c e) hc oA ho (I.aZ x c e)
   exact ⟨_,q,hd⟩
  ·exact ⟨o,keep c o (I.iG x c e) hc oA ho (I.aZ x c e),hd⟩
 refine ⟨I.ok,I.os,hg,⟨fun b o e n hb hx=>?_,fun b o e n hb hx=>?_,fun b o e n hx=>?_,fun b o e hx=>?_,fun b xs e=>tups b xs (I.base.tups b xs e),fun b o xs e=>bI b o xs (I.base.bI b o xs e),fun b ps e=>?_⟩,?_,fun x c e=>?_,?_,fun x c e=>?_,fun p hp=>?_,hok,I.len⟩
 ·exact keep b o (Eu b o e) hb (rJ b o e hx) (I.base.keep b o e n hb hx) (I.base.free b o e n hx)
 ·obtain ⟨sl,e1⟩:=I.base.slot b o e n hb hx
  obtain ⟨sl',e2⟩:=slot b _ (Eu b o e) hb (rJ b o e hx) e1 (I.base.free b o e n hx);exact ⟨sl',e2⟩
 ·obtain ⟨o',e1⟩:=I.base.there b o e hx
  exact free b o' (rJ b o e hx) e1 (I.base.free b o e n hx)
 ·obtain ⟨o',e1⟩:=I.base.there b o e hx
  exact there b o' (rJ b o e hx) e1
 ·obtain ⟨m1,e1⟩:=I.base.bU b ps e
  obtain ⟨m2,e2⟩:=bU b _ e1;exact ⟨m1++m2,by rw [e2,Array.append_assoc]⟩
 ·obtain ⟨m,hn,hl⟩:=I.loc
  refine ⟨m,ns m hn,fun i x v e1 e2 e3=>?_⟩;obtain ⟨u,r,l⟩:=hl i x v e1 e2 e3;refine ⟨u,r,?_⟩;rcases l with l | ⟨k,c,e,z⟩
  ·exact .inl l
  ·exact .inr ⟨k,c,e,cellK x c e _ z⟩
 ·obtain ⟨v,z⟩:=I.cell x c e
  exact ⟨v,cellK x c e v z⟩
 ·obtain ⟨m,⟨o,_,_,ho,_⟩,_⟩:=I.loc
  exact free _ o (fun z=>(hch _ z).2.1 rfl) ho I.free
 ·obtain ⟨v,o,ho,hd⟩:=I.cell x c e
  exact free c o (fun z=>(hch c z).2.2.1 x c e rfl) ho (I.aZ x c e)
 ·obtain ⟨e,n,ne,nf,d⟩:=I.pin p hp
  have oA:p.1∉ch:=fun z=>(hch p.1 z).2.2.2 p hp rfl
  exact ⟨keep p.1 p.2 ne nf oA e n,free p.1 p.2 oA e n,ne,nf,d⟩
theorem Inv.un {t':Nat} (I:Inv X pins σ H s) (u:Un X.fs [] H H' s.heap h') (hok:aX X.prog X.w H' h'):Inv X pins σ H' { s with heap:=h',toks:=t' }:=by
 obtain ⟨m,⟨o,es,ep,ho,r⟩,_⟩:=id I.loc;obtain ⟨sl,hL⟩:=u.any ho I.free (by simp);exact I.step (g':=s.gens) (d':=s.drawn) (ch:=[]) (fun _ z=>nomatch z) (fun b o _ hb _ e n=>u.keep b o e n hb (by simp)) (fun b o _ hb _ e n=>u.slot b o e n hb (by simp)) (fun b o _ e n=>u.free b o e n (by simp)) (fun b o _ e=>u.there b o e (by simp)) u.tups u.bI u.bU (fun m' hm=>by
  obtain ⟨o',es',ep',ho',r'⟩:=hm;rw [ho] at ho';cases ho'
  exact ⟨_,es',ep',hL,r'⟩) hok I.bare
theorem Inv.call {g':Array GenState} {t':Nat} {d':Drawn} {ch:List Addr} (I:Inv X pins σ H s) (u:Un (frs X.stack) ch H H' s.heap h') (hok:aX X.prog X.w H' h') (hg:f7 g')
  (hch:∀ b∈ch,(b∈X.ex\/X.s₀.heap.objs.size<=b)/\b≠X.env.locals/\(∀ x c,X.env.cells.lookup x=some c->c≠b)/\∀ p∈X.pn++pins,p.1≠b) :
  Inv X pins σ H' { s with heap:=h',gens:=g',drawn:=d',toks:=t' }:=by
 obtain ⟨m,⟨o,es,ep,ho,r⟩,_⟩:=id I.loc;obtain ⟨sl,hL⟩:=u.any ho I.free fun z=>(hch _ z).2.1 rfl
 exact I.step (ch:=ch) hch (fun b o hL hb hc e n=>u.keep b o e n (fun z=>(Υ.mp (I.eH b z)).elim hL hb) hc) (fun b o _ _ hc e n=>u.any e n hc) (fun b o hc e n=>u.free b o e n hc) (fun b o hc e=>u.there b o e hc) u.tups u.bI u.bU (fun m' hm=>by
  obtain ⟨o',es',ep',ho',r'⟩:=hm;rw [ho] at ho';cases ho'
  exact ⟨_,es',ep',hL,r'⟩) hok hg
theorem Inv.turned {t':Nat} {it:Addr} (I:Inv X pins σ H s) (k:∀ b o,b≠it->s.heap.get? b=some o->h'.get? b=some o) (hn:H it=none) (hL:it≠X.env.locals)
  (h1:it∈X.ex\/X.s₀.heap.objs.size<=it) (h2:∀ x c,X.env.cells.lookup x=some c->c≠it) (h3:∀ p∈X.pn++pins,p.1≠it):Inv X pins σ H { s with heap:=h',toks:=t' }:=by
 have eN:∀ b u,H b=some u->b≠it:=fun b u e z=>by rw [z,hn] at e;cases e
 refine I.step (g':=s.gens) (d':=s.drawn) (ch:=[it]) (fun b hb=>?_) (fun b o _ _ hc e _=>k b o (fun z=>hc (by simp [z])) e) (fun b o _ _ hc e _=>⟨o.slots,k b o (fun z=>hc (by simp [z])) e⟩) (fun _ _ _ _ n=>n)
  (fun b o hc e=>⟨o,k b o (fun z=>hc (by simp [z])) e⟩) (fun _ _ e=>e) (fun _ _ _ e=>e) (fun b ps e=>⟨#[],by rw [e];simp⟩) (fun m hm=>?_) (fun b u e=>?_) I.bare
 ·have e:b=it:=by simpa using hb
  subst e;exact ⟨h1,hL,h2,h3⟩
 ·obtain ⟨o,es,ep,ho,r⟩:=hm
  exact ⟨o,es,ep,k _ o (ω hL) ho,r⟩
 ·refine (I.hok b u e).stay (fun c v hc q=>k c v ?_ q) (fun _ q=>q) fun _ _ q=>q
  rcases hc with z | z
  ·rw [z];exact eN b u e
  ·exact eN c _ z
theorem Inv.tok (I:Inv X pins σ H s) (t:Nat):Inv X pins σ H { s with toks:=t }:=I.un (h':=s.heap) (t':=t) Un.refl I.hok
theorem Inv.kept {t':Nat} (I:Inv X pins σ H s) (k:∀ b u,s.heap.get? b=some u->h'.get? b=some u):Inv X pins σ H { s with heap:=h',toks:=t' }:=I.un (Un.kept k) (I.hok.kept k)
theorem Inv.laid {a:Addr} {o:HO} {t':Nat} (I:Inv X pins σ H s) (k:∀ b u,s.heap.get? b=some u->h'.get? b=some u) (hp:s.heap.objs.size<=a) (new:YN X.prog X.w (upd H a o) h' a o) :
  Inv X pins σ (upd H a o) { s with heap:=h',toks:=t' }:=I.un (Un.laid k hp (I.hok.fresh hp)) (I.hok.laid k hp new)
theorem Inv.write {x e:Addr} {o:HO} {t':Nat} (I:Inv X pins σ H s) (mu:oh (H x)) (he:e=x\/H e=some (.own x)) (k:∀ b u,b≠e->s.heap.get? b=some u->h'.get? b=some u) (heo:∃ u,h'.get? e=some u)
  (new:YN X.prog X.w (upd H x o) h' x o):Inv X pins σ (upd H x o) { s with heap:=h',toks:=t' }:=I.un (Un.write mu he k heo) (I.hok.write mu he k heo new)
theorem Inv.lU {dY:List (Addr×Obj)} (I:Inv X pins σ H s) (h:∀ p∈dY,s.heap.get? p.1=some p.2/\H p.1=none/\p.1≠X.env.locals/\p.1∉X.fs/\∀ v,p.2.data ≠ .cell v):Inv X dY σ H s :=
 ⟨I.ok,I.os,I.bare,I.base,I.loc,I.cell,I.free,I.aZ,fun p hp=>(η.mp hp).elim (fun z=>I.pin p (e8 _ z)) (h p),I.hok,I.len⟩
theorem Q8 {N:List Str} (hN:N.Nodup) {i j:Nat} {x:Str} (a:N[i]?=some x) (b:N[j]?=some x):i=j:=by
 obtain ⟨h1,e1⟩:=Ι.mp a;obtain ⟨h2,e2⟩:=Ι.mp b;exact (List.getElem_inj hN).mp (e1.trans e2.symm)
theorem O6 {M:Model} {A:τ} {E:Α->Δ->Prop} {i:Nat} {x:Str} {v:V} {u:Α} {Q:Unit->Δ->Prop} (I:Inv X pins σ H s) (hN:X.N.Nodup) (hi:X.N[i]?=some x) (hx:Loc X.env.scope x) (r:YA v u)
  (h:∀ s',Inv X pins (σ.set i (some v)) H s'->(∃ a,cp a s.heap s'.heap/\(a=X.env.locals\/X.env.cells.lookup x=some a))->Q () s') (hf:X.fn x=true\/X.env.scope.names.lookup x=some .local:=by first | exact .inl rfl | exact .inr rfl | assumption):Ξ M A (storeName X.env x u) Q E s:=by
 obtain ⟨m,hn,hl⟩:=id I.loc;have hcls:(X.env.scope.kind == .class||(X.env.scope.kind == .module&&X.env.locals != X.env.globals))=false:=by rw [I.ok.kind];rfl
 have vH:i<σ.length:=by rw [I.len];exact (Ι.mp hi).1
 have iG:=I.iG;have tracked:∀ {a:Addr} {h':Heap},(∃ o,s.heap.get? a=some o/\H a=none)->cp a s.heap h'->aX X.prog X.w H h':=fun {a h'} ha hs b ob e=>by
  obtain ⟨_,_,hfree⟩:=ha;refine (I.hok b ob e).stay (fun c w' hc q=>(hs.2 c ?_).trans q) (fun _ q=>q) fun _ _ q=>q
  rintro rfl;rcases hc with rfl | hc
  ·rw [hfree] at e;cases e
  ·rw [hfree] at hc;cases hc
 rcases hx with hk | hk
 ·refine wpAny_storeName_local hk hn (fun h' hn' hs=>?_) hcls
  obtain ⟨oL,_,_,hoL,_⟩:=id hn;refine h _ ⟨I.ok,I.os,I.bare,⟨fun b o e n hb hx=>?_,fun b o e n hb hx=>?_,I.base.free,fun b o e hx=>?_,I.base.tups,I.base.bI,I.base.bU⟩,⟨_,hn',fun j y v' e1 e2 e3=>?_⟩,fun y c e=>?_,I.free,I.aZ,fun p hp=>?_,tracked ⟨oL,hoL,I.free⟩ hs,by simpa using I.len⟩ ⟨_,hs,.inl rfl⟩
  ·exact (hs.2 b (υ (ρ (Ρ e) I.ok.above))).trans (I.base.keep b o e n hb hx)
  ·obtain ⟨sl,e1⟩:=I.base.slot b o e n hb hx
   exact ⟨sl,(hs.2 b (υ (ρ (Ρ e) I.ok.above))).trans e1⟩
  ·obtain ⟨o',e1⟩:=I.base.there b o e hx
   exact ⟨o',(hs.2 b (υ (ρ (Ρ e) I.ok.above))).trans e1⟩
  ·by_cases hj:j=i
   ·subst hj
    rw [hi] at e1;cases e1
    rw [List.getElem?_set_self vH] at e2
    cases e2
    exact ⟨u,r,.inl ⟨hk,by simp⟩⟩
   ·rw [List.getElem?_set_ne (ω hj)] at e2
    obtain ⟨u',r',q⟩:=hl j y v' e1 e2 e3;refine ⟨u',r',?_⟩;rcases q with ⟨k,e⟩ | ⟨k,c,e,z⟩
    ·refine .inl ⟨k,?_⟩
     have:y≠x:=fun e=>hj (Q8 hN e1 (e▸hi))
     simp [this,e]
    ·exact .inr ⟨k,c,e,z.sameBut hs (iG y c e)⟩
  ·obtain ⟨w',z⟩:=I.cell y c e
   exact ⟨w',z.sameBut hs (iG y c e)⟩
  ·obtain ⟨e,n,ne,nf,d⟩:=I.pin p hp
   exact ⟨(hs.2 p.1 ne).trans e,n,ne,nf,d⟩
 ·have hfn:X.fn x=true:=by
   rcases hf with z | z
   ·exact z
   ·rw [z] at hk;cases hk
  obtain ⟨c,hc⟩:=I.ok.has x (.inl hk);obtain ⟨w',z⟩:=I.cell x c hc;refine wpAny_storeName_cell I.ok.kind hk hc z (fun h' hc' hs=>?_);obtain ⟨oc,hoc,Mz⟩:=id z;refine h { s with heap:=h' } ⟨I.ok,I.os,I.bare,⟨fun b o e n hb hx=>?_,fun b o e n hb hx=>?_,I.base.free,fun b o e hx=>?_,I.base.tups,I.base.bI,I.base.bU⟩,⟨m,hn.sameBut hs (ω (iG x c hc)),fun j y v' e1 e2 e3=>?_⟩,fun y c' e=>?_,I.free,I.aZ,fun p hp=>?_,tracked ⟨oc,hoc,I.aZ x c hc⟩ hs,by simpa using I.len⟩ ⟨c,hs,.inr hc⟩
  ·exact (hs.2 b (υ (ρ (Ρ e) (I.ok.cab x c hfn hc)))).trans (I.base.keep b o e n hb hx)
  ·obtain ⟨sl,e1⟩:=I.base.slot b o e n hb hx
   exact ⟨sl,(hs.2 b (υ (ρ (Ρ e) (I.ok.cab x c hfn hc)))).trans e1⟩
  ·obtain ⟨o',e1⟩:=I.base.there b o e hx
   exact ⟨o',(hs.2 b (υ (ρ (Ρ e) (I.ok.cab x c hfn hc)))).trans e1⟩
  ·by_cases hj:j=i
   ·subst hj
    rw [hi] at e1;cases e1
    rw [List.getElem?_set_self vH] at e2
    cases e2
    exact ⟨u,r,.inr ⟨.inl hk,c,hc,hc'⟩⟩
   ·rw [List.getElem?_set_ne (ω hj)] at e2
    obtain ⟨u',r',q⟩:=hl j y v' e1 e2 e3;refine ⟨u',r',?_⟩;rcases q with q | ⟨k,c',e,z'⟩
    ·exact .inl q
    ·refine .inr ⟨k,c',e,z'.sameBut hs ?_⟩
     rintro rfl;exact hj (Q8 hN e1 (I.ok.inj _ _ _ e hc▸hi))
  ·by_cases hcc:c'=c
   ·subst hcc;exact ⟨_,hc'⟩
   ·obtain ⟨w2,z2⟩:=I.cell y c' e
    exact ⟨w2,z2.sameBut hs hcc⟩
  ·obtain ⟨e,n,ne,nf,d⟩:=I.pin p hp
   refine ⟨(hs.2 p.1 ?_).trans e,n,ne,nf,d⟩;intro q;rw [q,hoc] at e
   have q':oc=p.2:=Λ e;exact d w' (by rw [<- q'];exact Mz)
theorem Uc {M:Model} {A:τ} {E:Α->Δ->Prop} {i:Nat} {x:Str} {v:V} {u:Α} {Q:Unit->Δ->Prop} (I:Inv X pins σ H s) (hN:X.N.Nodup) (hi:X.N[i]?=some x) (hx:Loc X.env.scope x) (r:YA v u)
  (h:∀ s',Inv X pins (σ.set i (some v)) H s'->Q () s') (hf:X.fn x=true\/X.env.scope.names.lookup x=some .local:=by first | exact .inl rfl | exact .inr rfl | assumption):Ξ M A (storeName X.env x u) Q E s :=
 O6 I hN hi hx r (fun s' I' _=>h s' I') hf
theorem Inv.call' {s':Δ} {ch:List Addr} (I:Inv X pins σ H s) (ho:s'.os=s.os) (u:Un (frs X.stack) ch H H' s.heap s'.heap) (hok:aX X.prog X.w H' s'.heap) (hg:f7 s'.gens)
  (hch:∀ b∈ch,(b∈X.ex\/X.s₀.heap.objs.size<=b)/\b≠X.env.locals/\(∀ x c,X.env.cells.lookup x=some c->c≠b)/\∀ p∈X.pn++pins,p.1≠b):Inv X pins σ H' s':=by
 obtain ⟨h',g',d',t',o'⟩:=s';have e:o'=s.os:=ho;subst e;exact I.call (g':=g') (t':=t') (d':=d') u hok hg hch
end
abbrev XK:=Α->Option Addr->Hp->Prop
abbrev St:=List (Option V)
abbrev VK:=V->Hp->Prop
abbrev TE:=St->Hp->VK->Prop
abbrev TT:=St->Hp->(Bool->Hp->Prop)->Prop
abbrev TA:=St->Hp->(List V->Hp->Prop)->Prop
structure Ends where
 nx:St->Hp->Prop
 rt:VK
 bk:St->Hp->Prop:=fun _ _=>False
 ct:St->Hp->Prop:=fun _ _=>False
abbrev TS:=Ends->St->Hp->Prop
def EP (X:Cx) (pins:List (Addr×Obj)) (σ:St) (Q:VK) (u:Α) (s':Δ):Prop:=∃ v H',Inv X pins σ H' s'/\YA v u/\Q v H'
def TP (X:Cx) (pins:List (Addr×Obj)) (σ:St) (Q:Bool->Hp->Prop) (b:Bool) (s':Δ):Prop:=∃ H',Inv X pins σ H' s'/\Q b H'
def AP (X:Cx) (pins:List (Addr×Obj)) (σ:St) (Q:List V->Hp->Prop) (us:List Α) (s':Δ):Prop:=∃ vs H',Inv X pins σ H' s'/\Yw vs us/\Q vs H'
def SP (X:Cx) (pins:List (Addr×Obj)) (D:Ends) (f:Flow) (s':Δ):Prop :=
 match f with
 | .next=>∃ σ' H',Inv X pins σ' H' s'/\D.nx σ' H'
 | .brk=>∃ σ' H',Inv X pins σ' H' s'/\D.bk σ' H'
 | .cont=>∃ σ' H',Inv X pins σ' H' s'/\D.ct σ' H'
 | .ret u=>∃ v σ' H',Inv X pins σ' H' s'/\YA v u/\D.rt v H'
def PE (X:Cx) (e:Expr) (t:TE):Prop :=
 ∀ (pins:List (Addr×Obj)) (s:Δ) (σ:St) (H:Hp) (Q:VK),Inv X pins σ H s->t σ H Q->Ξ (γ X.prog X.w) X.A (eval e X.env) (EP X pins σ Q) X.xe s
def PT (X:Cx) (e:Expr) (t:TT):Prop :=
 ∀ (pins:List (Addr×Obj)) (s:Δ) (σ:St) (H:Hp) (Q:Bool->Hp->Prop),Inv X pins σ H s->t σ H Q->Ξ (γ X.prog X.w) X.A (isTrue e X.env (eval e X.env)) (TP X pins σ Q) X.xe s
def PW (X:Cx) (e:Expr) (t:TT):Prop :=
 ∀ (whole:Sem Α) (pins:List (Addr×Obj)) (s:Δ) (σ:St) (H:Hp) (Q:Bool->Hp->Prop),Inv X pins σ H s->t σ H Q->Ξ (γ X.prog X.w) X.A (isTrue e X.env whole) (TP X pins σ Q) X.xe s
theorem PW.pt {X:Cx} {e:Expr} {t:TT} (h:PW X e t):PT X e t:=h _
def PA (X:Cx) (es:List Expr) (t:TA):Prop :=
 ∀ (pos:Pos) (pins:List (Addr×Obj)) (s:Δ) (σ:St) (H:Hp) (Q:List V->Hp->Prop),Inv X pins σ H s->t σ H Q->Ξ (γ X.prog X.w) X.A (spliced (bv pos (Φ es X.env))) (AP X pins σ Q) X.xe s
def PS (X:Cx) (st:Stmt) (t:TS):Prop :=
 ∀ (pins:List (Addr×Obj)) (s:Δ) (σ:St) (H:Hp) (D:Ends),Inv X pins σ H s->t D σ H->Ξ (γ X.prog X.w) X.A (exec st X.env) (SP X pins D) X.xe s
def cW (X:Cx) (st:List Stmt) (t:TS):Prop :=
 ∀ (pins:List (Addr×Obj)) (s:Δ) (σ:St) (H:Hp) (D:Ends),Inv X pins σ H s->t D σ H->Ξ (γ X.prog X.w) X.A (execs st X.env) (SP X pins D) X.xe s
theorem aG {α:Type} {t:Sem α} {Q Q':α->Δ->Prop} {M:Model} {A:τ} {E:Α->Δ->Prop} {s:Δ} (h:Ξ M A t Q E s) (hQ:∀ a s,Q a s->Q' a s):Ξ M A t Q' E s:=bo h hQ fun _ _ x=>x
section
variable {X:Cx}
def kI (x:V) (k:Int->Prop):Prop:=match x with | .int i=>k i | _=>False
def kB (x:V) (k:Bool->Prop):Prop:=match x with | .bl i=>k i | _=>False
def kR (x:V) (k:Addr->Prop):Prop:=match x with | .ref i=>k i | _=>False
def k1 (l:List V) (k:V->Prop):Prop:=match l with | [x]=>k x | _=>False
def k2 (l:List V) (k:V->V->Prop):Prop:=match l with | [x,y]=>k x y | _=>False
theorem Ew (i:Int) (k:Int->Prop):kI (.int i) k=k i:=rfl
theorem Ey (i:Bool) (k:Bool->Prop):kB (.bl i) k=k i:=rfl
theorem Ez (i:Addr) (k:Addr->Prop):kR (.ref i) k=k i:=rfl
theorem EY (x:V) (k:V->Prop):k1 [x] k=k x:=rfl
theorem Fb (x y:V) (k:V->V->Prop):k2 [x,y] k=k x y:=rfl
theorem US {x:V} {k:Int->Prop}:kI x k↔∃ i,x = .int i/\k i:=⟨fun h=>by cases x<;>first | exact ⟨_,rfl,h⟩ | exact h.elim,fun ⟨_,e,h⟩=>e▸h⟩
theorem UT {x:V} {k:Bool->Prop}:kB x k↔∃ i,x = .bl i/\k i:=⟨fun h=>by cases x<;>first | exact ⟨_,rfl,h⟩ | exact h.elim,fun ⟨_,e,h⟩=>e▸h⟩
theorem W0 {x:V} {k:Addr->Prop}:kR x k↔∃ i,x = .ref i/\k i:=⟨fun h=>by cases x<;>first | exact ⟨_,rfl,h⟩ | exact h.elim,fun ⟨_,e,h⟩=>e▸h⟩
theorem vI {l:List V} {k:V->Prop} (h:k1 l k):∃ x,l=[x]/\k x:=by
 unfold k1 at h
 split at h
 ·exact ⟨_,rfl,h⟩
 ·exact h.elim
theorem MF {l:List V} {k:V->V->Prop} (h:k2 l k):∃ x y,l=[x,y]/\k x y:=by
 unfold k2 at h
 split at h
 ·exact ⟨_,_,rfl,h⟩
 ·exact h.elim
def fJ:Nat->St->(V->Prop)->Prop
 | 0,σ,k=>match σ with | some v::_=>k v | _=>False
 | n+1,σ,k=>match σ with | _::l=>fJ n l k | []=>False
theorem Fd (v:V) (l:St) (k:V->Prop):fJ 0 (some v::l) k=k v:=rfl
theorem Fe (n:Nat) (a:Option V) (l:St) (k:V->Prop):fJ (n+1) (a::l) k=fJ n l k:=rfl
theorem Fg:∀ {n:Nat} {σ:St} {k:V->Prop},fJ n σ k->∃ v,σ[n]?=some (some v)/\k v
 | 0,σ,k,h=>by
  unfold fJ at h
  split at h
  ·exact ⟨_,rfl,h⟩
  ·exact h.elim
 | n+1,σ,k,h=>by
  unfold fJ at h
  split at h
  ·exact Fg (n:=n) h
  ·exact h.elim
theorem Uo:∀ {n:Nat} {σ:St} {k:V->Prop} {v:V},σ[n]?=some (some v)->k v->fJ n σ k
 | _,[],_,_,e,_=>by simp at e
 | 0,a::σ,k,v,e,h=>by
  have:a=some v:=by simpa using e
  subst this;exact h
 | n+1,a::σ,k,v,e,h=>Uo (n:=n) (σ:=σ) (by simpa using e) h
def W3 (i:Nat):TE:=fun σ H Q=>fJ i σ fun v=>Q v H
def tC (v:V):TE:=fun _ H Q=>Q v H
theorem Q9 {i:Nat} {x:Str} {pos:Pos} (hN:X.N[i]?=some x) (hv:ou X.env.scope x) (hd:(x==("__debug__":Str))=false:=by decide) (hcd:(x==("__classdict__":Str))=false:=by decide):PE X (.Name x pos) (W3 i):=by
 intro pins s σ H Q I h;obtain ⟨v,e,h⟩:=Fg h;obtain ⟨m,hn,hl⟩:=I.loc;obtain ⟨u,r,l⟩:=hl i x v hN e hv;have fin:EP X pins σ Q u s:=⟨v,H,I,r,h⟩;rcases l with ⟨hk,hm⟩ | ⟨hk,c,hc,hcell⟩
 ·exact wpAny_Name (wpAny_loadName_local I.ok.kind hk hn hm fin) hd
 ·rcases hk with hk | hk
  ·exact wpAny_Name (wpAny_loadName_cell I.ok.kind hk hc hcell fin) hd
  ·exact wpAny_Name (wpAny_loadName_free I.ok.kind hk hc hcell fin hcd) hd
theorem Yh {i j pos}:PE X (.Constant (.int i) j pos) (tC (.int i)):=fun _ _ _ H _ I h=>wpAny_Constant_int ⟨.int i,H,I.tok _,⟨_,rfl⟩,h⟩
theorem WN {b j pos}:PE X (.Constant (.bool b) j pos) (tC (.bl b)):=fun _ _ _ H _ I h=>Constant_bool ⟨.bl b,H,I,rfl,h⟩
theorem XF {j pos}:PE X (.Constant .none j pos) (tC .non):=fun _ _ _ H _ I h=>Constant_none ⟨.non,H,I,rfl,h⟩
theorem YC {x j pos}:PE X (.Constant (.str x) j pos) (tC (.str x)):=fun _ _ _ H _ I h=>Calls.Constant_str ⟨.str x,H,I.tok _,⟨_,rfl⟩,h⟩
def Gl (X:Cx) (x:Str):Prop:=X.env.kindOf x=some .globalImplicit
theorem VP {E:Α->Δ->Prop} {pins:List (Addr×Obj)} {s:Δ} {σ:St} {H:Hp} {x:Str} {u:Α} {pos:Pos} {Q:Α->Δ->Prop} (I:Inv X pins σ H s) (hg:Gl X x) (hm:X.mg x=some u) (h:Q u s)
  (hd:(x==("__debug__":Str))=false:=by decide):Ξ (γ X.prog X.w) X.A (eval (.Name x pos) X.env) Q E s :=
 Calls.Name_function_global I.ok.kind hg (Calls.loadGlobal_global (by rw [I.ok.glob];exact I.mod.glob.keeps I.bk) hm h) hd
theorem XT {E:Α->Δ->Prop} {pins:List (Addr×Obj)} {s:Δ} {σ:St} {H:Hp} {x:Str} {u:Α} {pos:Pos} {Q:Α->Δ->Prop} (I:Inv X pins σ H s) (hg:Gl X x) (hm:X.mg x=none) (hv:dy x=some u) (h:Q u s)
  (hn:x≠"__name__":=by decide) (hd:(x==("__debug__":Str))=false:=by decide):Ξ (γ X.prog X.w) X.A (eval (.Name x pos) X.env) Q E s:=by
 obtain ⟨mb,h1,h2⟩:=I.mod.blt;exact Calls.Name_function_global I.ok.kind hg (Calls.loadGlobal_builtin (by rw [I.ok.glob];exact I.mod.glob.keeps I.bk) hm (by rw [I.ok.blt];exact h1.keeps I.bk) ((h2 x hn).trans hv) h) hd
theorem Fi {x:Str} {v:V} {u:Α} {pos:Pos} (hg:Gl X x) (hm:X.mg x=some u) (r:YA v u) (hd:(x==("__debug__":Str))=false:=by decide):PE X (.Name x pos) (tC v) :=
 fun _ _ _ H _ I h=>VP I hg hm ⟨v,H,I,r,h⟩ hd
theorem O7 {x:Str} {v:V} {u:Α} {pos:Pos} (hg:Gl X x) (hm:X.mg x=none) (hv:dy x=some u) (r:YA v u) (hn:x≠"__name__":=by decide) (hd:(x==("__debug__":Str))=false:=by decide):PE X (.Name x pos) (tC v) :=
 fun _ _ _ H _ I h=>XT I hg hm hv ⟨v,H,I,r,h⟩ hn hd
variable {a b:Expr} {ta tb:TE} {pos:Pos}
def tB (t:TE):TT:=fun σ H Q=>t σ H fun x H1=>kB x fun c=>Q c H1
theorem YY {e:Expr} {t:TE} (h:PE X e t) (he:∀ whole,isTrue e X.env whole=(do let v <- whole;standAt e.pos;holding [v] (truthy v))):PT X e (tB t):=by
 intro pins s σ H Q I hw;refine isTrue_plain (aG (h pins s σ H _ I hw) fun v s1 ⟨x,H1,I1,r1,q1⟩=>?_) (he _);obtain ⟨d,rfl,q⟩:=UT.mp q1
 cases r1
 exact d4 ⟨H1,I1,q⟩
variable {tA rK:TT} {Xd:List Expr}
def qF (t u:TT):TT:=fun σ H Q=>t σ H fun c H1=>if c=true then u σ H1 Q else Q false H1
def vJ (t u:TT):TT:=fun σ H Q=>t σ H fun c H1=>if c=true then Q true H1 else u σ H1 Q
def qG (t:TT):TT:=fun σ H Q=>t σ H fun c H1=>Q (!c) H1
theorem O8 (ha:PT X a tA):PW X (.BoolOp .And [a] pos) tA:=by
 intro wh pins s σ H Q I h;refine isTrue_and (aG (ha pins s σ H Q I h) fun c s1 e=>?_)
 cases c with
 | true=>exact isTrue_and_nil e
 | false=>exact e
theorem WG (ha:PT X a tA):PW X (.BoolOp .Or [a] pos) tA:=by
 intro wh pins s σ H Q I h;refine isTrue_or (aG (ha pins s σ H Q I h) fun c s1 e=>?_)
 cases c with
 | false=>exact isTrue_or_nil e
 | true=>exact e
theorem O9 (ha:PT X a tA) (hb:PW X (.BoolOp .And (b::Xd) pos) rK):PW X (.BoolOp .And (a::b::Xd) pos) (qF tA rK):=by
 intro wh pins s σ H Q I h;refine isTrue_and (aG (ha pins s σ H _ I h) fun c s1 ⟨H1,I1,q1⟩=>?_)
 cases c with
 | true=>exact hb wh pins s1 σ H1 Q I1 q1
 | false=>exact ⟨H1,I1,q1⟩
theorem Vj (ha:PT X a tA) (hb:PW X (.BoolOp .Or (b::Xd) pos) rK):PW X (.BoolOp .Or (a::b::Xd) pos) (vJ tA rK):=by
 intro wh pins s σ H Q I h;refine isTrue_or (aG (ha pins s σ H _ I h) fun c s1 ⟨H1,I1,q1⟩=>?_)
 cases c with
 | true=>exact ⟨H1,I1,q1⟩
 | false=>exact hb wh pins s1 σ H1 Q I1 q1
theorem Wr (ha:PT X a tA):PT X (.UnaryOp .Not a pos) (qG tA):=by
 intro pins s σ H Q I h;exact isTrue_not (ha pins s σ H (fun c H1=>Q (!c) H1) I h)
def vK (ta tb:TE):TE:=fun σ H Q=>ta σ H fun x H1=>kB x fun c=>if c=true then tb σ H1 Q else Q (.bl false) H1
def vL (ta tb:TE):TE:=fun σ H Q=>ta σ H fun x H1=>kB x fun c=>if c=true then Q (.bl true) H1 else tb σ H1 Q
def vM (ta:TE):TE:=fun σ H Q=>ta σ H fun x H1=>kB x fun c=>Q (.bl (!c)) H1
theorem X4 {op} {t:TE} (h:PE X a t):PE X (.BoolOp op [a] pos) t:=fun pins s σ H Q I hw=>BoolOp_one (h pins s σ H Q I hw)
theorem X5 (ha:PE X a ta) (hb:PE X (.BoolOp .And (b::Xd) pos) tb):PE X (.BoolOp .And (a::b::Xd) pos) (vK ta tb):=by
 intro pins s σ H Q I h;refine BoolOp_and (aG (ha pins s σ H _ I h) fun v s1 ⟨x,H1,I1,r1,q1⟩=>?_)
 replace q1:=UT.mp q1
 obtain ⟨c,rfl,q1⟩:=q1
 cases r1
 refine d4 ?_
 cases c with
 | true=>exact hb pins s1 σ H1 Q I1 q1
 | false=>exact ⟨.bl false,H1,I1,rfl,q1⟩
theorem Pa (ha:PE X a ta):PE X (.UnaryOp .Not a pos) (vM ta):=by
 intro pins s σ H Q I h;refine UnaryOp_ (aG (ha pins s σ H _ I h) fun v s1 ⟨x,H1,I1,r1,q1⟩=>?_)
 replace q1:=UT.mp q1
 obtain ⟨c,rfl,q1⟩:=q1
 cases r1
 exact not_of (d4 ⟨.bl (!c),H1,I1,rfl,q1⟩)
def vN (t:TT) (ta tb:TE):TE:=fun σ H Q=>t σ H fun c H1=>if c=true then ta σ H1 Q else tb σ H1 Q
theorem Fj {c:Expr} (hc:PT X c tA) (ha:PE X a ta) (hb:PE X b tb):PE X (.IfExp c a b pos) (vN tA ta tb):=by
 intro pins s σ H Q I h;refine wpAny_IfExp (aG (hc pins s σ H _ I h) fun d s1 ⟨H1,I1,q1⟩=>?_)
 cases d with
 | true=>exact ha pins s1 σ H1 Q I1 q1
 | false=>exact hb pins s1 σ H1 Q I1 q1
end
def ao (K:Κ) (H:Hp) (a:Addr) (xs:List V):Prop :=
 Rd H a (.lst xs) \/
  ∃ (o:Obj) (its:Array Α) (n:Nat),K.lookup a=some o/\o.cls = .type "list"/\o.dict=none/\o.data = .seq its n/\its.size<=sizeLine/\Yw xs its.toList
def aq (K:Κ) (H:Hp) (a:Addr) (xs:List V):Prop :=
 Rd H a (.tup xs) \/
  ∃ (o:Obj) (its:Array Α) (n:Nat),K.lookup a=some o/\o.cls = .type "tuple"/\o.data = .seq its n/\its.size<=sizeLine/\Yw xs its.toList
def MJ:Α->Option V
 | .none=>some .non
 | .bool b=>some (.bl b)
 | .int i _=>some (.int i)
 | .str x _=>some (.str x)
 | .bytes b _=>some (.d9 b)
 | .float b _=>some (.flt b)
 | .ref a=>some (.ref a)
 | .type n=>some (.ty n)
 | _=>none
theorem YA.abs {x:V} {u:Α} (r:YA x u):MJ u=some x:=by
 cases x with
 | non=>cases r;rfl
 | bl _=>cases r;rfl
 | int _=>obtain ⟨t,rfl⟩:=r;rfl
 | str _=>obtain ⟨t,rfl⟩:=r;rfl
 | d9 _=>obtain ⟨t,rfl⟩:=r;rfl
 | flt _=>obtain ⟨t,rfl⟩:=r;rfl
 | ref _=>cases r;rfl
 | ty _=>cases r;rfl
theorem YA.inj {x y:V} {u:Α} (r:YA x u) (q:YA y u):x=y:=Λ (r.abs.symm.trans q.abs)
theorem Yw.inj:∀ {xs ys:List V} {us:List Α},Yw xs us->Yw ys us->xs=ys
 | _,_,_,.nil,.nil=>rfl
 | _,_,_,.cons r t,.cons r' t'=>by rw [r.inj r',Yw.inj t t']
section
variable {X:Cx} {pins:List (Addr×Obj)} {σ:St} {H:Hp} {s:Δ} {a:Addr} {xs ys:List V}
theorem ao.of {K:Κ} (h:H a=some (.lst xs)):ao K H a xs := .inl (.inl h)
theorem aq.of {K:Κ} (h:H a=some (.tup xs)):aq K H a xs := .inl (.inl h)
theorem Inv.list (I:Inv X pins σ H s) (h:ao X.K H a xs):∃ its:List Α,Yw xs its/\PlainL s.heap a its.toArray/\xs.length<=sizeLine:=by
 rcases h with h | ⟨o,its,n,hk,hc,hd,hs,hz,r⟩
 ·obtain ⟨z,its,n,r,e⟩:=h.ok I.hok
  exact ⟨its,r,⟨_,n,e,rfl,rfl,rfl⟩,z⟩
 ·refine ⟨its.toList,r,⟨o,n,I.bJ a o hk,hc,hd,by simpa using hs⟩,?_⟩
  have e:=r.length;simp only [Array.length_toList] at e;omega
theorem Inv.tuple (I:Inv X pins σ H s) (h:aq X.K H a xs):∃ its:List Α,Yw xs its/\IsTup s.heap a its.toArray/\xs.length<=sizeLine:=by
 rcases h with h | ⟨o,its,n,hk,hc,hs,hz,r⟩
 ·obtain ⟨z,its,r,p⟩:=h.ok I.hok
  exact ⟨its,r,p,z⟩
 ·refine ⟨its.toList,r,⟨o,I.bJ a o hk,hc,n,by simpa using hs⟩,?_⟩
  have e:=r.length;simp only [Array.length_toList] at e;omega
theorem Inv.jx (I:Inv X pins σ H s) (h:ao X.K H a xs) (h':ao X.K H a ys):xs=ys:=by
 obtain ⟨its,r,⟨o,n,e,_,_,d⟩,_⟩:=I.list h;obtain ⟨its',r',⟨o',n',e',_,_,d'⟩,_⟩:=I.list h';rw [e] at e';cases e'
 rw [d] at d'
 injection d' with d1 _
 have:its=its':=by simpa using congrArg Array.toList d1
 subst this;exact r.inj r'
theorem Inv.iH (I:Inv X pins σ H s) (h:aq X.K H a xs) (h':aq X.K H a ys):xs=ys:=by
 obtain ⟨its,r,⟨o,e,_,n,d⟩,_⟩:=I.tuple h;obtain ⟨its',r',⟨o',e',_,n',d'⟩,_⟩:=I.tuple h';rw [e] at e';cases e'
 rw [d] at d'
 injection d' with d1 _
 have:its=its':=by simpa using congrArg Array.toList d1
 subst this;exact r.inj r'
end
abbrev Cx.wish (X:Cx) (E:Α->Δ->Prop):Cx:={ X with xe:=E }
abbrev Cx.dI (X:Cx):Cx:=X.wish fun _ _=>False
theorem Cx.Ok.wish {X:Cx} (ok:X.Ok) (E:Α->Δ->Prop):(X.wish E).Ok :=
 ⟨ok.mod,ok.kind,ok.glob,ok.blt,ok.above,ok.inj,ok.has,ok.cab,ok.hd,ok.frames,ok.stk,ok.Et,ok.bs,ok.eE,ok.jw,ok.mR,ok.cj,ok.eG⟩
theorem Cx.Ok.cA {X:Cx} {E:Α->Δ->Prop} (ok:(X.wish E).Ok):X.Ok :=
 ⟨ok.mod,ok.kind,ok.glob,ok.blt,ok.above,ok.inj,ok.has,ok.cab,ok.hd,ok.frames,ok.stk,ok.Et,ok.bs,ok.eE,ok.jw,ok.mR,ok.cj,ok.eG⟩
section
variable {X:Cx} {pins:List (Addr×Obj)} {σ:St} {H:Hp} {s:Δ} {E:Α->Δ->Prop}
theorem Inv.wish (I:Inv X pins σ H s) (E:Α->Δ->Prop):Inv (X.wish E) pins σ H s:=⟨I.ok.wish E,I.os,I.bare,I.base,I.loc,I.cell,I.free,I.aZ,I.pin,I.hok,I.len⟩
theorem Inv.cA (I:Inv (X.wish E) pins σ H s):Inv X pins σ H s:=⟨I.ok.cA,I.os,I.bare,I.base,I.loc,I.cell,I.free,I.aZ,I.pin,I.hok,I.len⟩
theorem SP.cA {D:Ends} {f:Flow} {s':Δ} (h:SP (X.wish E) pins D f s'):SP X pins D f s':=by
 cases f with
 | next=>obtain ⟨σ',H',I,q⟩:=h;exact ⟨σ',H',I.cA,q⟩
 | brk=>obtain ⟨σ',H',I,q⟩:=h;exact ⟨σ',H',I.cA,q⟩
 | cont=>obtain ⟨σ',H',I,q⟩:=h;exact ⟨σ',H',I.cA,q⟩
 | ret u=>obtain ⟨v,σ',H',I,r,q⟩:=h;exact ⟨v,σ',H',I.cA,r,q⟩
theorem cW.dI {st:List Stmt} {t:TS} (h:cW X.dI st t):cW X st t:=fun pins s σ H D I hw =>
 bo (h pins s σ H D (I.wish _) hw) (fun _ _ q=>q.cA) fun _ _ z=>bi z
end
section
variable {X:Cx} {st:Stmt} {Xd:List Stmt} {t u:TS} {e:Expr} {te:TE} {pos:Pos}
def Up:TS:=fun D σ H=>D.nx σ H
def W4 (t u:TS):TS:=fun D σ H=>t { D with nx:=u D } σ H
theorem Ym:cW X [] Up:=fun _ _ σ H _ I h=>ic ⟨σ,H,I,h⟩
theorem Yd (h1:PS X st t) (h2:cW X Xd u):cW X (st::Xd) (W4 t u):=by
 intro pins s σ H D I h;refine gV (aG (h1 pins s σ H { D with nx:=u D } I h) fun f s1 q=>?_)
 cases f with
 | next =>
  obtain ⟨σ',H',I',q⟩:=q;exact h2 pins s1 σ' H' D I' q
 | ret v=>exact q
 | brk=>exact q
 | cont=>exact q
theorem Yf (h1:PS X st t):cW X [st] t:=by
 intro pins s σ H D I h;refine gV (aG (h1 pins s σ H D I h) fun f s1 q=>?_)
 cases f with
 | next=>exact ic q
 | ret v=>exact q
 | brk=>exact q
 | cont=>exact q
def Fl:TS:=fun D σ H=>D.bk σ H
def Fo:TS:=fun D σ H=>D.ct σ H
theorem Inv.quiet {pins:List (Addr×Obj)} {σ:St} {H:Hp} {s:Δ} (I:Inv X pins σ H s):interactive X.env=false:=by simp [interactive,I.ok.kind]
def QR (te:TE):TS:=fun D σ H=>te σ H fun _ H1=>D.nx σ H1
theorem Y0 (he:PE X e te) (hs:swapsWith e none pos.line X.env=pure false):PS X (.Expr e pos) (QR te):=by
 intro pins s σ H D I h;exact wpAny_Expr_any (aG (he pins s σ H _ I h) fun v s1 ⟨x,H1,I1,r1,q1⟩=>⟨σ,H1,I1,q1⟩) I.quiet hs
def UU (te:TE):TS:=fun D σ H=>te σ H D.rt
theorem Yl (he:PE X e te):PS X (.Return (some e) pos) (UU te):=by
 intro pins s σ H D I h;exact wpAny_Return_some (aG (he pins s σ H _ I h) fun v s1 ⟨x,H1,I1,r1,q1⟩=>⟨x,σ,H1,I1,r1,q1⟩)
def Fp:TS:=fun D _ H=>D.rt .non H
def oE (c:TT) (t u:TS):TS:=fun D σ H=>c σ H fun b H1=>if b=true then t D σ H1 else u D σ H1
theorem Yx {c:Expr} {a b:List Stmt} {tc:TT} (hc:PT X c tc) (ha:cW X a t) (hb:cW X b u):PS X (.If c a b pos) (oE tc t u):=by
 intro pins s σ H D I h;refine wpAny_If (aG (hc pins s σ H _ I h) fun d s1 ⟨H1,I1,q1⟩=>?_)
 cases d with
 | true=>exact ha pins s1 σ H1 D I1 q1
 | false=>exact hb pins s1 σ H1 D I1 q1
def vO:TS:=fun _ _ _=>False
theorem Yy:PS X st vO:=fun _ _ _ _ _ _ h=>h.elim
end
abbrev TG:=V->St->Hp->(St->Hp->Prop)->Prop
abbrev jy:=List V->St->Hp->(St->Hp->Prop)->Prop
def PG (X:Cx) (target:Expr) (t:TG):Prop :=
 ∀ (pins:List (Addr×Obj)) (s:Δ) (σ:St) (H:Hp) (v:V) (u:Α) (Q:St->Hp->Prop),Inv X pins σ H s->YA v u->t v σ H Q ->
  Ξ (γ X.prog X.w) X.A (assign target X.env u) (fun _ s'=>∃ σ' H',Inv X pins σ' H' s'/\Q σ' H') X.xe s
def rM (X:Cx) (ts:List Expr) (t:jy):Prop :=
 ∀ (pins:List (Addr×Obj)) (s:Δ) (σ:St) (H:Hp) (vs:List V) (us:List Α) (Q:St->Hp->Prop),Inv X pins σ H s->Yw vs us->t vs σ H Q ->
  Ξ (γ X.prog X.w) X.A (assignInOrder ((ge ts X.env).map (·.2)) us) (fun _ s'=>∃ σ' H',Inv X pins σ' H' s'/\Q σ' H') X.xe s
abbrev MK:=V->V->V->Hp->(Hp->Prop)->Prop
abbrev Fq:=V->V->Hp->VK->Prop
section
variable {X:Cx} {pos:Pos}
def YE (i:Nat):TG:=fun v σ H Q=>Q (σ.set i (some v)) H
theorem Yu {i:Nat} {x:Str} (hN:X.N.Nodup) (hi:X.N[i]?=some x) (hx:Loc X.env.scope x) (hf:X.fn x=true\/X.env.scope.names.lookup x=some .local:=by first | exact .inl rfl | exact .inr rfl | assumption):PG X (.Name x pos) (YE i):=by
 intro pins s σ H v u Q I r h;exact wpAny_assign_Name (Uc I hN hi hx r (fun s' I'=>⟨_,H,I',h⟩) hf)
def vP:jy:=fun vs σ H Q=>vs=[]/\Q σ H
def Ft (t:TG) (u:jy):jy:=fun vs σ H Q=>∃ v r,vs=v::r/\t v σ H fun σ' H'=>u r σ' H' Q
theorem Wf:rM X [] vP:=by
 intro pins s σ H vs us Q I r h;obtain ⟨e,h⟩:=h;subst e
 cases r
 exact assignInOrder_nil ⟨σ,H,I,h⟩
theorem Y7 {e:Expr} {es:List Expr} {t:TG} {u:jy} (h1:PG X e t) (h2:rM X es u)
  (hs:(ge (e::es) X.env).map (·.2)=assign e X.env::(ge es X.env).map (·.2)):rM X (e::es) (Ft t u):=by
 intro pins s σ H vs us Q I r h;obtain ⟨v,vr,e1,h⟩:=h;subst e1
 cases r with
 | cons r rr =>
  rw [hs];refine assignInOrder_cons (aG (h1 pins s σ H _ _ _ I r h) fun _ s1 ⟨σ1,H1,I1,q1⟩=>?_);exact h2 pins s1 σ1 H1 _ _ Q I1 rr q1
def qH (K:Κ) (n:Nat) (t:jy):TG:=fun v σ H Q=>∃ a xs,v = .ref a/\aq K H a xs/\xs.length=n/\t xs σ H Q
theorem WH {es:List Expr} {k:Nat} {t:jy} {n:Nat} (hc:X.calm=true) (h:rM X es t)
  (hn:(ge es X.env).length=n) (hst:(ge es X.env).findIdx? (·.1)=none):PG X (.Tuple es k pos) (qH X.K n t):=by
 intro pins s σ H v u Q I r hw;obtain ⟨a,xs,e1,hq,hl,hw⟩:=hw;subst e1
 cases r
 obtain ⟨its,rv,ht,hz⟩:=I.tuple hq;refine assign_Tuple_tuple (I.ok.hd hc) ht (by simp [hn,<- hl,rv.length]) hst fun h' hx=>?_
 have I1:Inv X pins σ H { s with heap:=h' }:=I.kept (t':=s.toks) fun b o e=>hx b o (υ (Ρ e)) e
 exact h pins _ σ H xs _ Q I1 (by simpa using rv) hw
def vQ (to ti:TE) (t:MK):TG:=fun v σ H Q=>to σ H fun o H1=>ti σ H1 fun i H2=>t o i v H2 fun H3=>Q σ H3
def rN (te:TE) (g:TG):TS:=fun D σ H=>te σ H fun x H1=>g x σ H1 D.nx
theorem Yr {i:Nat} {x:Str} {e:Expr} {te:TE} {pos':Pos} (hN:X.N.Nodup) (hi:X.N[i]?=some x) (hx:Loc X.env.scope x) (he:PE X e te) (hs:swapsWith e (some (.Name x pos')) pos.line X.env=pure false) (hf:X.fn x=true\/X.env.scope.names.lookup x=some .local) :
  PS X (.Assign [.Name x pos'] e pos) (rN te (YE i)):=by
 intro pins s σ H D I h;refine wpAny_Assign_Name (aG (he pins s σ H _ I h) fun v s1 ⟨y,H1,I1,r1,q1⟩=>?_) hs;exact Uc I1 hN hi hx r1 (fun s2 I2=>⟨_,H1,I2,q1⟩) hf
def vR (i:Nat) (te:TE) (ti:Fq):TS:=fun D σ H=>fJ i σ fun x=>te σ H fun y H1=>ti x y H1 fun z H2=>D.nx (σ.set i (some z)) H2
def Fv (f:Int->Int->Int):Fq:=fun x y H Q=>kI x fun i=>kI y fun j=>Q (.int (f i j)) H
theorem vU {x y:V} {k:Int->Int->Prop} (h:kI x fun i=>kI y fun j=>k i j):∃ i j,x = .int i/\y = .int j/\k i j:=by
 obtain ⟨i,e,h⟩:=US.mp h;obtain ⟨j,e',h⟩:=US.mp h;exact ⟨i,j,e,e',h⟩
def Fw (c:TT) (tb:TS):TS:=fun D σ H=>∃ W:Nat->St->Hp->Prop,(∃ m,W m σ H)/\∀ m σ H,W m σ H ->
 c σ H fun b H1=>if b=true then ∃ N:St->Hp->Prop,(∀ σ' H',N σ' H'->∃ m',m'<m/\W m' σ' H')/\tb { D with nx:=N,ct:=N,bk:=D.nx } σ H1 else D.nx σ H1
theorem Wg {c:Expr} {body:List Stmt} {tc:TT} {tb:TS} (hp:PassesOwn (γ X.prog X.w) X.A X.env X.xe) (hc:PT X c tc) (hb:cW X body tb):PS X (.While c body [] pos) (Fw tc tb):=by
 intro pins s σ H D I h;obtain ⟨W,⟨m0,w0⟩,turn⟩:=h;refine wpAny_While (codeAny_whileLoop (fun n s'=>∃ σ' H',Inv X pins σ' H' s'/\W n σ' H') ?_ m0 ⟨σ,H,I,w0⟩);rintro n s1 ⟨σ1,H1,I1,w1⟩;refine dC hp (aG (hc pins s1 σ1 H1 _ I1 (turn n σ1 H1 w1)) fun b s2 ⟨H2,I2,q2⟩=>?_)
 cases b with
 | true =>
  obtain ⟨N,hN,q2⟩:=q2;rw [if_pos rfl];refine dC hp (aG (hb pins s2 σ1 H2 _ I2 q2) fun f s3 q3=>?_)
  cases f with
  | next =>
   obtain ⟨σ3,H3,I3,n3⟩:=q3;obtain ⟨m',hm,w3⟩:=hN σ3 H3 n3;exact ⟨m',hm,σ3,H3,I3,w3⟩
  | cont =>
   obtain ⟨σ3,H3,I3,n3⟩:=q3;obtain ⟨m',hm,w3⟩:=hN σ3 H3 n3;exact ⟨m',hm,σ3,H3,I3,w3⟩
  | brk=>exact q3
  | ret v=>exact q3
 | false =>
  rw [if_neg ζ];exact ic ⟨σ1,H2,I2,q2⟩
end
structure It where
 go:Nat->Hp->Prop
 fY:Nat->Hp->V->Hp->Prop
 stop:Nat->Hp->Prop
def X6 (X:Cx) (pins:List (Addr×Obj)) (H:Hp) (b:Addr):Prop :=
 H b=none/\b≠X.env.locals/\b∉X.fs/\(b∈X.ex\/X.s₀.heap.objs.size<=b)/\(∀ x c,X.env.cells.lookup x=some c->c≠b)/\∀ p∈X.pn++pins,p.1≠b
theorem Inv.dO {X:Cx} {pins:List (Addr×Obj)} {σ:St} {H H':Hp} {s:Δ} {b:Addr} (I:Inv X pins σ H s) (hb:s.heap.objs.size<=b) (hn:H' b=none):X6 X pins H' b:=by
 refine ⟨hn,ek (ρ I.lt hb),I.Mx hb,.inr (ah I.sz hb),fun x c e z=>?_,fun p hp z=>?_⟩
 ·obtain ⟨v,q⟩:=I.cell x c e
  exact absurd (ρ q.lt (by rw [z];exact hb)) (de _)
 ·exact absurd (ρ (Ρ (I.pin p hp).1) (by rw [z];exact hb)) (de _)
structure Turn (P:Ο) (w:ε) (K:Κ) (tg:Expr) (J:It) (fp:List Addr) (it:Addr) (tn:Nat->Heap->Prop):Prop where
 mem:it∈fp
 obj:∀ i h,tn i h->∀ b∈fp,∃ o,h.get? b=some o/\∀ v,o.data ≠ .cell v
 keep:∀ i h h',tn i h->(∀ b∈fp,∀ o,h.get? b=some o->h'.get? b=some o)->tn i h'
 item:∀ (X:Cx),X.prog=P->X.w=w->X.K=K->X.calm=true->∀ (i:Nat) (pins:List (Addr×Obj)) (s:Δ) (σ:St) (H:Hp) (E:Α->Δ->Prop),Inv X pins σ H s->(∀ b∈fp,X6 X pins H b)->tn i s.heap->J.go i H ->
  Ξ (γ P w) X.A (pyNext (.ref it)) (fun r s1=>∃ u,r=some u /\
   Ξ (γ P w) X.A (fk tg (.ref it) u) (fun _ s2=>∃ x H',Inv X pins σ H' s2/\YA x u/\J.fY i H x H'/\tn (i+1) s2.heap/\∀ b∈fp,H' b=none) E s1) E s
 done:∀ (X:Cx),X.prog=P->X.w=w->X.K=K->X.calm=true->∀ (i:Nat) (pins:List (Addr×Obj)) (s:Δ) (σ:St) (H:Hp) (E:Α->Δ->Prop),Inv X pins σ H s->(∀ b∈fp,X6 X pins H b)->tn i s.heap->J.stop i H ->
  Ξ (γ P w) X.A (pyNext (.ref it)) (fun r s1=>r=none/\Inv X pins σ H s1) E s
 self:∀ (A:τ) (i:Nat) (s:Δ) (Q:Α->Δ->Prop) (E:Α->Δ->Prop),tn i s.heap->Q (.ref it) s->Ξ (γ P w) A (pyIter (.ref it)) Q E s
abbrev TI:=St->Hp->(It->Hp->Prop)->Prop
def PIE (X:Cx) (pins:List (Addr×Obj)) (σ:St) (tg:Expr) (R:It->Hp->Prop) (itv:Α) (s2:Δ):Prop :=
 ∃ (it:Addr) (fp:List Addr) (tn:Nat->Heap->Prop) (J:It) (H':Hp),itv = .ref it/\Inv X pins σ H' s2/\Turn X.prog X.w X.K tg J fp it tn/\tn 0 s2.heap/\(∀ b∈fp,X6 X pins H' b)/\R J H'
def PI (X:Cx) (tg iter:Expr) (wi:TI):Prop :=
 ∀ (pins:List (Addr×Obj)) (s:Δ) (σ:St) (H:Hp) (R:It->Hp->Prop),Inv X pins σ H s->wi σ H R ->
  Ξ (γ X.prog X.w) X.A (eval iter X.env) (fun v s1=>Ξ (γ X.prog X.w) X.A (pyIter v) (PIE X pins σ tg R) X.xe s1) X.xe s
theorem VQ {M:Model} {A:τ} {E:Α->Δ->Prop} {s:Δ} {tg:Expr} {it:Addr} {u:Α} {o:Obj} {n:String} {vs:Array Α} {Q:Unit->Δ->Prop} (ho:s.heap.get? it=some o) (hc:o.cls = .type n) (hd:o.data = .fields vs)
  (hn:["enumerate","zip","dict_itemiterator","dict_reverseitemiterator","odict_iterator","itertools.zip_longest","itertools.pairwise"].contains n=false) (hQ:Q () s):Ξ M A (fk tg (.ref it) u) Q E s:=by
 unfold fk
 cases tg<;>first
  | exact Ψ hQ
  | (cases u<;>first
    | exact Ψ hQ
    | (refine Θ (wpAny_load ho ?_)
       rw [hc,hd]
       show Ξ M A (if (["enumerate","zip","dict_itemiterator","dict_reverseitemiterator","odict_iterator","itertools.zip_longest","itertools.pairwise"].contains n&&vs[0]?==some (cy _))=true then _ else _) Q E s
       rw [if_neg (by intro h;rw [hn,Bool.false_and] at h;cases h)];exact Ψ hQ))
def lV (K:Κ) (a:Addr):It :=
 ⟨fun i H=>∃ xs x,ao K H a xs/\xs[i]?=some x,fun i H x H'=>H'=H/\∀ xs,ao K H a xs->xs[i]?=some x,fun i H=>∃ xs,ao K H a xs/\xs.length<=i⟩
def lW (K:Κ) (a:Addr):It :=
 ⟨fun i H=>∃ xs x,aq K H a xs/\xs[i]?=some x,fun i H x H'=>H'=H/\∀ xs,aq K H a xs->xs[i]?=some x,fun i H=>∃ xs,aq K H a xs/\xs.length<=i⟩
def jz (lo:Int) (n:Nat):It:=⟨fun i _=>i<n,fun i H x H'=>H'=H/\x = .int (lo+i),fun i _=>n<=i⟩
theorem Pb {P:Ο} {w:ε} {K:Κ} {tg:Expr} (a it:Addr):Turn P w K tg (lV K a) [it] it (fun i h=>h.IsListIter it a i) where
 mem:=by simp
 obj:=fun i h st b hb=>by
  have e:b=it:=by simpa using hb
  subst e;obtain ⟨o,e,c,d⟩:=st;exact ⟨o,e,fun v z=>by rw [d] at z;cases z⟩
 keep:=fun i h h' st k=>st.at fun o e=>k it (by simp) o e
 item:=by
  intro X hP hw hK hc i pins s σ H E I hf st hg;subst hP hw hK;obtain ⟨xs,x,hq,hx⟩:=hg;obtain ⟨its,rv,p,hz⟩:=I.list hq;obtain ⟨u,hu,ru⟩:=rv.get hx;obtain ⟨f0,f1,f2,f3,f4,f5⟩:=hf it (by simp);refine wpAny_pyNext_list_item st p.isList (x:=u) (by simpa using hu) fun h' st' sb=>?_
  have I1:Inv X pins σ H { s with heap:=h' }:=I.turned (t':=s.toks) (fun b o hb e=>(sb.2 b hb).trans e) f0 f1 f3 f4 f5;obtain ⟨o,e,c,d⟩:=id st';exact ⟨u,rfl,VQ (s:={ s with heap:=h' }) e c d (by decide) ⟨x,H,I1,ru,⟨rfl,fun ys hy=>by rw [I.jx hy hq];exact hx⟩,st',fun b hb=>(hf b hb).1⟩⟩
 done:=by
  intro X hP hw hK hc i pins s σ H E I hf st hg;subst hP hw hK;obtain ⟨xs,hq,hx⟩:=hg;obtain ⟨its,rv,p,hz⟩:=I.list hq;obtain ⟨f0,f1,f2,f3,f4,f5⟩:=hf it (by simp);have hl:=rv.length;exact wpAny_pyNext_list_end (I.ok.hd hc) st p.isList (by simp;omega) fun h' eb=>⟨rfl,I.turned (t':=s.toks) (fun b o hb e=>eb b o hb e) f0 f1 f3 f4 f5⟩
 self:=fun _ _ _ _ _ st h=>wpAny_pyIter_listiter st h
theorem Pg {P:Ο} {w:ε} {K:Κ} {tg:Expr} (a it:Addr):Turn P w K tg (lW K a) [it] it (fun i h=>h.IsTupleIter it a i) where
 mem:=by simp
 obj:=fun i h st b hb=>by
  have e:b=it:=by simpa using hb
  subst e;obtain ⟨o,e,c,d⟩:=st;exact ⟨o,e,fun v z=>by rw [d] at z;cases z⟩
 keep:=fun i h h' st k=>st.at fun o e=>k it (by simp) o e
 item:=by
  intro X hP hw hK hc i pins s σ H E I hf st hg;subst hP hw hK;obtain ⟨xs,x,hq,hx⟩:=hg;obtain ⟨its,rv,p,hz⟩:=I.tuple hq;obtain ⟨u,hu,ru⟩:=rv.get hx;obtain ⟨f0,f1,f2,f3,f4,f5⟩:=hf it (by simp);refine wpAny_pyNext_tuple_item st (show s.heap.IsTuple a its.toArray from p) (x:=u) (by simpa using hu) fun h' st' sb=>?_
  have I1:Inv X pins σ H { s with heap:=h' }:=I.turned (t':=s.toks) (fun b o hb e=>(sb.2 b hb).trans e) f0 f1 f3 f4 f5;obtain ⟨o,e,c,d⟩:=id st';exact ⟨u,rfl,VQ (s:={ s with heap:=h' }) e c d (by decide) ⟨x,H,I1,ru,⟨rfl,fun ys hy=>by rw [I.iH hy hq];exact hx⟩,st',fun b hb=>(hf b hb).1⟩⟩
 done:=by
  intro X hP hw hK hc i pins s σ H E I hf st hg;subst hP hw hK;obtain ⟨xs,hq,hx⟩:=hg;obtain ⟨its,rv,p,hz⟩:=I.tuple hq;obtain ⟨f0,f1,f2,f3,f4,f5⟩:=hf it (by simp);have hl:=rv.length;exact wpAny_pyNext_tuple_end (I.ok.hd hc) st (show s.heap.IsTuple a its.toArray from p) (by simp;omega) fun h' eb=>⟨rfl,I.turned (t':=s.toks) (fun b o hb e=>eb b o hb e) f0 f1 f3 f4 f5⟩
 self:=fun _ _ _ _ _ st h=>wpAny_pyIter_tupleiter st h
theorem Ph {P:Ο} {w:ε} {K:Κ} {tg:Expr} (it:Addr) (lo:Int) (n:Nat):Turn P w K tg (jz lo n) [it] it (fun i h=>gu h it (lo+(i:Nat)*1) ((n:Int) - (i:Nat)) 1) where
 mem:=by simp
 obj:=fun i h st b hb=>by
  have e:b=it:=by simpa using hb
  subst e;exact ⟨_,st,fun v z=>by
   have z':js _=Data.cell v:=z
   cases z'⟩
 keep:=fun i h h' st k=>k it (by simp) _ st
 item:=by
  intro X hP hw hK hc i pins s σ H E I hf st hg;subst hP hw hK;obtain ⟨f0,f1,f2,f3,f4,f5⟩:=hf it (by simp);have W:=Walks.range (prog:=X.prog) (w:=X.w) (I.ok.hd hc) it lo 1 n;refine W.item i s _ _ hg st fun v h' tk hv st' kk=>?_
  obtain ⟨t,rfl⟩:=hv;have I1:Inv X pins σ H { s with heap:=h',toks:=tk }:=I.turned (fun b o hb e=>kk b o (by simpa using hb) e) f0 f1 f3 f4 f5;refine ⟨_,rfl,VQ (s:={ s with heap:=h',toks:=tk }) (n:="range_iterator") st' rfl rfl (by decide) ⟨.int (lo+i),H,I1,⟨t,?_⟩,⟨rfl,rfl⟩,st',fun b hb=>(hf b hb).1⟩⟩;rw [Int.mul_one]
 done:=by
  intro X hP hw hK hc i pins s σ H E I hf st hg;subst hP hw hK;obtain ⟨f0,f1,f2,f3,f4,f5⟩:=hf it (by simp);exact wpAny_pyNext_range_end (I.ok.hd hc) st (by have:n<=i:=hg;omega) fun h' eb=>⟨rfl,I.turned (t':=s.toks) (fun b o hb e=>eb b o hb e) f0 f1 f3 f4 f5⟩
 self:=fun _ _ _ _ _ st h=>wpAny_pyIter_rangeiter st h
section
variable {X:Cx} {tg:Expr}
def XM (K:Κ) (tl:TE):TI:=fun σ H R=>tl σ H fun x H1=>∃ a,x = .ref a/\(∃ xs,ao K H1 a xs)/\R (lV K a) H1
def rO (K:Κ) (tl:TE):TI:=fun σ H R=>tl σ H fun x H1=>∃ a,x = .ref a/\(∃ xs,aq K H1 a xs)/\R (lW K a) H1
theorem YW {l:Expr} {tl:TE} (hl:PE X l tl):PI X tg l (XM X.K tl):=by
 intro pins s σ H R I h;refine aG (hl pins s σ H _ I h) fun v s1 ⟨x,H1,I1,r1,q1⟩=>?_
 obtain ⟨a,e,⟨xs,hq⟩,q⟩:=q1;subst e
 cases r1
 obtain ⟨its,rv,p,hz⟩:=I1.list hq;refine wpAny_pyIter_list p.isList ?_;refine ⟨s1.heap.objs.size,[s1.heap.objs.size],_,_,H1,rfl,I1.kept (t':=s1.toks) fun b o e=>Η _ e,Pb a _,⟨_,Ω _ rfl,rfl,rfl⟩,fun b hb=>?_,q⟩;have e:b=s1.heap.objs.size:=by simpa using hb
 subst e;exact I1.dO (Μ _) (I1.hok.fresh (Μ _))
theorem Uq {l:Expr} {tl:TE} (hl:PE X l tl):PI X tg l (rO X.K tl):=by
 intro pins s σ H R I h;refine aG (hl pins s σ H _ I h) fun v s1 ⟨x,H1,I1,r1,q1⟩=>?_
 obtain ⟨a,e,⟨xs,hq⟩,q⟩:=q1;subst e
 cases r1
 obtain ⟨its,rv,p,hz⟩:=I1.tuple hq;refine wpAny_pyIter_tuple (show s1.heap.IsTuple a its.toArray from p) ?_;refine ⟨s1.heap.objs.size,[s1.heap.objs.size],_,_,H1,rfl,I1.kept (t':=s1.toks) fun b o e=>Η _ e,Pg a _,⟨_,Ω _ rfl,rfl,rfl⟩,fun b hb=>?_,q⟩;have e:b=s1.heap.objs.size:=by simpa using hb
 subst e;exact I1.dO (Μ _) (I1.hok.fresh (Μ _))
theorem Pj {pins:List (Addr×Obj)} {σ:St} {H:Hp} {s:Δ} {R:It->Hp->Prop} {E:Α->Δ->Prop} {lo hi:Int} {t u v:Tok} {tk:Nat} (I:Inv X pins σ H s) (h1 : -(2^62)<=lo) (h2:lo<2^62) (h3 : -(2^62)<=hi) (h4:hi<2^62)
  (q:R (jz lo (hi - lo).toNat) H):Ξ (γ X.prog X.w) X.A (pyIter (.ref s.heap.objs.size)) (PIE X pins σ tg R) E { s with heap:=s.heap.push { cls := .type "range",data := .fields #[.int lo t,.int hi u,.int 1 v] },toks:=tk }:=by
 refine wpAny_pyIter_range (IsRange.new ..) (small_one h1 h2 h3 h4) ?_;have I1:Inv X pins σ H { s with heap:=s.heap.push { cls := .type "range",data := .fields #[.int lo t,.int hi u,.int 1 v] },toks:=tk }:=I.kept fun b o e=>Η _ e
 refine ⟨(s.heap.push { cls := .type "range",data := .fields #[.int lo t,.int hi u,.int 1 v] }).objs.size,[(s.heap.push { cls := .type "range",data := .fields #[.int lo t,.int hi u,.int 1 v] }).objs.size],_,_,H,rfl,
  I1.kept (t':=tk) fun b o e=>Η _ e,Ph _ lo (hi - lo).toNat,?_,fun b hb=>?_,q⟩
 ·have e1:lo+((0:Nat):Int)*1=lo:=by simp
  have e2:(((hi - lo).toNat:Nat):Int) - ((0:Nat):Int)=ψ lo hi 1:=by rw [rangeSize_one];split<;>omega
  show gu _ _ (lo+((0:Nat):Int)*1) ((((hi - lo).toNat:Nat):Int) - ((0:Nat):Int)) 1
  rw [e1,e2];exact Ω _ rfl
 ·have e:b=(s.heap.push { cls := .type "range",data := .fields #[.int lo t,.int hi u,.int 1 v] }).objs.size:=by simpa using hb
  subst e;exact I1.dO (Μ _) (I1.hok.fresh (Μ _))
def QS (ta:TA):TI:=fun σ H R=>ta σ H fun vs H1=>∃ j:Int,vs=[.int j] /\ -(2^62)<=j/\j<2^62/\R (jz 0 j.toNat) H1
theorem XB {a:Expr} {ta:TA} {p pos:Pos} (hg:Gl X "range") (hm:X.mg "range"=none) (ha:PA X [a] ta) (hs:Φ [a] X.env=[(false,eval a X.env)]):PI X tg (.Call (.Name "range" p) [a] [] pos) (QS ta):=by
 intro pins s σ H R I h;refine Call_ (XT I hg hm boot_range (be (aG (ha pos pins s σ H _ I h) fun us s1 ⟨vs,H1,I1,r1,q1⟩=>?_) hs rfl));obtain ⟨j,e,q1,q2,q⟩:=q1;subst e
 cases r1 with
 | cons r rr =>
  cases rr
  obtain ⟨t,rfl⟩:=r;exact call_range_1 (Pj I1 (by omega) (by omega) q1 q2 (by simpa using q))
def XS (wi:TI) (g:TG) (tb:TS):TS:=fun D σ H=>wi σ H fun J H1=>∃ W:Nat->Nat->St->Hp->Prop,(∃ m,W 0 m σ H1)/\∀ i m σ H,W i m σ H ->
 (J.stop i H/\D.nx σ H)\/(J.go i H/\∃ N:St->Hp->Prop,(∀ σ' H',N σ' H'->∃ m',m'<m/\W (i+1) m' σ' H')/\∀ x H',J.fY i H x H'->g x σ H' fun σ2 H2=>tb { D with nx:=N,ct:=N,bk:=D.nx } σ2 H2)
def Vx (fp:List Addr) (h:Heap):List (Addr×Obj):=fp.filterMap fun b=>(h.get? b).map fun o=>(b,o)
theorem X7 {fp:List Addr} {h:Heap} {b:Addr} {o:Obj} (hb:b∈fp) (e:h.get? b=some o):(b,o)∈Vx fp h:=List.mem_filterMap.mpr ⟨b,hb,by rw [e];rfl⟩
theorem Pk {fp:List Addr} {h:Heap} {p:Addr×Obj} (hp:p∈Vx fp h):p.1∈fp/\h.get? p.1=some p.2:=by
 obtain ⟨b,hb,e⟩:=List.mem_filterMap.mp hp
 cases q:h.get? b with
 | none=>rw [q] at e;cases e
 | some o =>
  rw [q] at e
  have e':(b,o)=p:=Λ e;subst e';exact ⟨hb,q⟩
theorem Inv.pinned {pins:List (Addr×Obj)} {σ:St} {H:Hp} {s:Δ} {fp:List Addr} (I:Inv X pins σ H s) (hf:∀ b∈fp,X6 X pins H b) (ho:∀ b∈fp,∃ o,s.heap.get? b=some o/\∀ v,o.data ≠ .cell v):Inv X (pins++Vx fp s.heap) σ H s :=
 I.lU fun p hp=>(η.mp hp).elim (fun z=>I.pin p (ap _ z)) fun z=>by
  obtain ⟨hb,e⟩:=Pk z;obtain ⟨f0,f1,f2,_⟩:=hf p.1 hb;obtain ⟨o,e',d⟩:=ho p.1 hb;rw [e] at e';cases e'
  exact ⟨e,f0,f1,f2,d⟩
theorem Inv.dg {pins pl:List (Addr×Obj)} {σ:St} {H:Hp} {s:Δ} (I:Inv X (pins++pl) σ H s):Inv X pins σ H s:=I.lU fun p hp=>I.pin p (ap _ (e8 _ hp))
theorem Xo {iter:Expr} {body:List Stmt} {wi:TI} {g:TG} {tb:TS} {pos:Pos} (hp:PassesOwn (γ X.prog X.w) X.A X.env X.xe) (hc:X.calm=true) (hi:PI X tg iter wi) (hg:PG X tg g) (hb:cW X body tb)
  (hs:∀ x,foldedSetIterable iter X.env x=pure x):PS X (.For tg iter body [] pos) (XS wi g tb):=by
 intro pins s σ H D I h;refine wpAny_For (aG (hi pins s σ H _ I h) fun v s1 h1=>aG h1 fun itv s2 h2=>?_) hs;obtain ⟨it,fp,tn,J,H2,e,I2,T,st2,f2,W,⟨m0,w0⟩,turn⟩:=h2;subst e
 -- what stays true of the iterator's objects through the loop
 have stat:∀ {H':Hp},(∀ b∈fp,H' b=none)->∀ b∈fp,X6 X pins H' b:=fun hn b hb=>⟨hn b hb,(f2 b hb).2⟩
 refine codeAny_forLoop_any (fun n s'=>∃ i σ' H',Inv X pins σ' H' s'/\tn i s'.heap/\(∀ b∈fp,H' b=none)/\W i n σ' H') ?_ m0 ⟨0,σ,H2,I2,st2,fun b hb=>(f2 b hb).1,w0⟩;rintro n s3 ⟨i,σ3,H3,I3,st3,Fx,w3⟩;rcases turn i n σ3 H3 w3 with ⟨stop,qn⟩ | ⟨go,N,hN,step⟩
 ·refine dC hp (aG (T.done X rfl rfl rfl hc i pins s3 σ3 H3 X.xe I3 (stat Fx) st3 stop) fun r s4 ⟨hr,I4⟩=>?_)
  subst hr;exact ic ⟨σ3,H3,I4,qn⟩
 ·refine dC hp (aG (T.item X rfl rfl rfl hc i pins s3 σ3 H3 X.xe I3 (stat Fx) st3 go) fun r s4 ⟨u,hr,h4⟩=>?_)
  subst hr;refine dC hp (aG h4 fun _ s5 ⟨x,H5,I5,r5,y5,lX,fZ⟩=>?_);have Pn:=I5.pinned (stat fZ) (T.obj _ _ lX);refine dC hp (aG (hg _ s5 σ3 H5 x u _ Pn r5 (step x H5 y5)) fun _ s6 ⟨Pq,H6,I6,q6⟩=>?_);refine dC hp (aG (hb _ s6 Pq H6 _ I6 q6) fun f s7 q7=>?_);have again:∀ {dR:St} {H7:Hp},Inv X (pins++Vx fp s5.heap) dR H7 s7->N dR H7->∃ m,m<n/\∃ i σ' H',Inv X pins σ' H' s7/\tn i s7.heap/\(∀ b∈fp,H' b=none)/\W i m σ' H':=fun {dR H7} I7 n7=>by
   obtain ⟨m',hm,w7⟩:=hN dR H7 n7;refine ⟨m',hm,i+1,dR,H7,I7.dg,T.keep _ _ _ lX fun b hb o e=>(I7.pin (b,o) (ap _ (ap _ (X7 hb e)))).1,fun b hb=>?_,w7⟩;obtain ⟨o,e,d⟩:=T.obj _ _ lX b hb;exact (I7.pin (b,o) (ap _ (ap _ (X7 hb e)))).2.1
  cases f with
  | next=>obtain ⟨dR,H7,I7,n7⟩:=q7;exact again I7 n7
  | cont=>obtain ⟨dR,H7,I7,n7⟩:=q7;exact again I7 n7
  | brk=>obtain ⟨dR,H7,I7,q7⟩:=q7;exact ⟨dR,H7,I7.dg,q7⟩
  | ret v=>obtain ⟨x7,dR,H7,I7,r7,q7⟩:=q7;exact ⟨x7,dR,H7,I7.dg,r7,q7⟩
end
theorem Vk {K:Κ} {a:Addr} {xs:List V} {g:TG} {tb:TS} {D:Ends} {σ:St} {H:Hp} (Pv:Nat->St->Hp->Prop) (h0:Pv 0 σ H) (hl:∀ i σ H,i<=xs.length->Pv i σ H->ao K H a xs)
  (hs:∀ i x σ H,xs[i]?=some x->Pv i σ H->g x σ H fun σ2 H2=>tb { D with nx:=Pv (i+1),ct:=Pv (i+1),bk:=D.nx } σ2 H2) (hd:∀ σ H,Pv xs.length σ H->D.nx σ H) :
  ∃ W:Nat->Nat->St->Hp->Prop,(∃ m,W 0 m σ H)/\∀ i m σ H,W i m σ H ->
   ((lV K a).stop i H/\D.nx σ H)\/((lV K a).go i H/\∃ N:St->Hp->Prop,(∀ σ' H',N σ' H'->∃ m',m'<m/\W (i+1) m' σ' H')/\∀ x H',(lV K a).fY i H x H'->g x σ H' fun σ2 H2=>tb { D with nx:=N,ct:=N,bk:=D.nx } σ2 H2):=by
 refine ⟨fun i m σ H=>m=xs.length - i/\i<=xs.length/\Pv i σ H,⟨xs.length,by simp,az _,h0⟩,?_⟩;rintro i m σ H ⟨rfl,hi,p⟩;have q:=hl i σ H hi p;by_cases hlt:i<xs.length
 ·refine .inr ⟨⟨xs,xs[i],q,by simp [hlt]⟩,Pv (i+1),fun σ' H' p'=>⟨xs.length - (i+1),by omega,rfl,hlt,p'⟩,fun x H' y=>?_⟩
  obtain ⟨e,y⟩:=y;subst e;exact hs i x σ _ (y xs q) p
 ·have e:i=xs.length:=by omega
  subst e;exact .inl ⟨⟨xs,q,Μ _⟩,hd σ H p⟩
theorem Fy {K:Κ} {a:Addr} {xs:List V} {g:TG} {tb:TS} {D:Ends} {σ:St} {H:Hp} (Pv:Nat->St->Hp->Prop) (h0:Pv 0 σ H) (hl:∀ i σ H,i<=xs.length->Pv i σ H->aq K H a xs)
  (hs:∀ i x σ H,xs[i]?=some x->Pv i σ H->g x σ H fun σ2 H2=>tb { D with nx:=Pv (i+1),ct:=Pv (i+1),bk:=D.nx } σ2 H2) (hd:∀ σ H,Pv xs.length σ H->D.nx σ H) :
  ∃ W:Nat->Nat->St->Hp->Prop,(∃ m,W 0 m σ H)/\∀ i m σ H,W i m σ H ->
   ((lW K a).stop i H/\D.nx σ H)\/((lW K a).go i H/\∃ N:St->Hp->Prop,(∀ σ' H',N σ' H'->∃ m',m'<m/\W (i+1) m' σ' H')/\∀ x H',(lW K a).fY i H x H'->g x σ H' fun σ2 H2=>tb { D with nx:=N,ct:=N,bk:=D.nx } σ2 H2):=by
 refine ⟨fun i m σ H=>m=xs.length - i/\i<=xs.length/\Pv i σ H,⟨xs.length,by simp,az _,h0⟩,?_⟩;rintro i m σ H ⟨rfl,hi,p⟩;have q:=hl i σ H hi p;by_cases hlt:i<xs.length
 ·refine .inr ⟨⟨xs,xs[i],q,by simp [hlt]⟩,Pv (i+1),fun σ' H' p'=>⟨xs.length - (i+1),by omega,rfl,hlt,p'⟩,fun x H' y=>?_⟩
  obtain ⟨e,y⟩:=y;subst e;exact hs i x σ _ (y xs q) p
 ·have e:i=xs.length:=by omega
  subst e;exact .inl ⟨⟨xs,q,Μ _⟩,hd σ H p⟩
theorem Pr {lo:Int} {n:Nat} {g:TG} {tb:TS} {D:Ends} {σ:St} {H:Hp} (Pv:Nat->St->Hp->Prop) (h0:Pv 0 σ H)
  (hs:∀ i σ H,i<n->Pv i σ H->g (.int (lo+i)) σ H fun σ2 H2=>tb { D with nx:=Pv (i+1),ct:=Pv (i+1),bk:=D.nx } σ2 H2) (hd:∀ σ H,Pv n σ H->D.nx σ H) :
  ∃ W:Nat->Nat->St->Hp->Prop,(∃ m,W 0 m σ H)/\∀ i m σ H,W i m σ H ->
   ((jz lo n).stop i H/\D.nx σ H)\/((jz lo n).go i H/\∃ N:St->Hp->Prop,(∀ σ' H',N σ' H'->∃ m',m'<m/\W (i+1) m' σ' H')/\∀ x H',(jz lo n).fY i H x H'->g x σ H' fun σ2 H2=>tb { D with nx:=N,ct:=N,bk:=D.nx } σ2 H2):=by
 refine ⟨fun i m σ H=>m=n - i/\i<=n/\Pv i σ H,⟨n,by simp,az _,h0⟩,?_⟩;rintro i m σ H ⟨rfl,hi,p⟩;by_cases hlt:i<n
 ·refine .inr ⟨hlt,Pv (i+1),fun σ' H' p'=>⟨n - (i+1),by omega,rfl,hlt,p'⟩,fun x H' y=>?_⟩
  obtain ⟨e,y⟩:=y;subst e y;exact hs i σ _ hlt p
 ·have e:i=n:=by omega
  subst e;exact .inl ⟨Μ _,hd σ H p⟩
abbrev R2:=V->V->Hp->VK->Prop
def bH (X:Cx) (f:Α->Α->Sem Α) (r:R2):Prop :=
 ∀ (pins:List (Addr×Obj)) (s:Δ) (σ:St) (H:Hp) (x y:V) (v u:Α) (Q:VK),Inv X pins σ H s->YA x v->YA y u->r x y H Q ->
  Ξ (γ X.prog X.w) X.A (f v u) (EP X pins σ Q) X.xe s
def vV (X:Cx) (f:Α->Sem Α) (r:V->Hp->VK->Prop):Prop :=
 ∀ (pins:List (Addr×Obj)) (s:Δ) (σ:St) (H:Hp) (x:V) (v:Α) (Q:VK),Inv X pins σ H s->YA x v->r x H Q ->
  Ξ (γ X.prog X.w) X.A (f v) (EP X pins σ Q) X.xe s
def Xv (X:Cx) (f:Α) (r:List V->Hp->VK->Prop):Prop :=
 ∀ (pins:List (Addr×Obj)) (s:Δ) (σ:St) (H:Hp) (xs:List V) (us:List Α) (Q:VK),Inv X pins σ H s->Yw xs us->r xs H Q ->
  Ξ (γ X.prog X.w) X.A (call f us) (EP X pins σ Q) X.xe s
def iI (r:R2) (ta tb:TE):TE:=fun σ H Q=>ta σ H fun x H1=>tb σ H1 fun y H2=>r x y H2 Q
def vW (r:V->Hp->VK->Prop) (ta:TE):TE:=fun σ H Q=>ta σ H fun x H1=>r x H1 Q
def rI (C:Int->Int->Prop) (g:Int->Int->V):R2:=fun x y H Q=>kI x fun i=>kI y fun j=>C i j/\Q (g i j) H
def fK (g:Int->Int->V):R2:=fun x y H Q=>kI x fun i=>kI y fun j=>Q (g i j) H
def rU (g:Int->V):V->Hp->VK->Prop:=fun x H Q=>kI x fun i=>Q (g i) H
section
variable {X:Cx} {a b c:Expr} {ta tb tc:TE} {pos:Pos}
theorem qI (ha:PE X a ta) (hb:PE X b tb) {pins:List (Addr×Obj)} {s:Δ} {σ:St} {H:Hp} {R:V->V->Hp->Prop} (I:Inv X pins σ H s)
  (h:ta σ H fun x H1=>tb σ H1 fun y H2=>R x y H2) {Q:Α->Δ->Prop} {f:Α->Α->Sem Α}
  (hf:∀ v u s2 x y H2,Inv X pins σ H2 s2->YA x v->YA y u->R x y H2->Ξ (γ X.prog X.w) X.A (f v u) Q X.xe s2) :
  Ξ (γ X.prog X.w) X.A (eval a X.env) (fun v s₁=>Ξ (γ X.prog X.w) X.A (eval b X.env) (fun u s₂=>Ξ (γ X.prog X.w) X.A (f v u) Q X.xe s₂) X.xe s₁) X.xe s:=by
 refine aG (ha pins s σ H _ I h) fun v s1 ⟨x,H1,I1,r1,q1⟩=>?_
 refine aG (hb pins s1 σ H1 _ I1 q1) fun u s2 ⟨y,H2,I2,r2,q2⟩=>?_
 exact hf v u s2 x y H2 I2 r1 r2 q2
theorem Yn {op:Operator} {r:R2} (ho:bH X (fq op) r) (ha:PE X a ta) (hb:PE X b tb):PE X (.BinOp a op b pos) (iI r ta tb):=by
 intro pins s σ H Q I h;exact wpAny_BinOp (qI ha hb I h fun v u s2 x y H2 I2 rx ry q=>ho pins s2 σ H2 x y v u Q I2 rx ry q)
theorem WO {op:UnaryOp} {r:V->Hp->VK->Prop} (ho:vV X (unaryOp op) r) (ha:PE X a ta):PE X (.UnaryOp op a pos) (vW r ta):=by
 intro pins s σ H Q I h;exact UnaryOp_ (aG (ha pins s σ H _ I h) fun v s1 ⟨x,H1,I1,r1,q1⟩=>ho pins s1 σ H1 x v Q I1 r1 q1)
theorem rP {f:Α->Α->Sem Α} {C:Int->Int->Prop} {g:Int->Int->Int}
  (rule:∀ (i j:Int) (t u:Tok) (s:Δ) (Q:Α->Δ->Prop) (E:Α->Δ->Prop),C i j->Q (.int (g i j) s.toks) { s with toks:=s.toks+1 }->Ξ (γ X.prog X.w) X.A (f (.int i t) (.int j u)) Q E s) :
  bH X f (rI C fun i j => .int (g i j)):=by
 intro pins s σ H x y v u Q I rx ry h
 replace h:=vU h
 obtain ⟨i,j,rfl,rfl,hc,q⟩:=h;obtain ⟨t,rfl⟩:=rx;obtain ⟨t',rfl⟩:=ry;exact rule i j t t' s _ _ hc ⟨.int (g i j),H,I.tok _,⟨_,rfl⟩,q⟩
theorem vX {f:Α->Α->Sem Α} {g:Int->Int->Int}
  (rule:∀ (i j:Int) (t u:Tok) (s:Δ) (Q:Α->Δ->Prop) (E:Α->Δ->Prop),Q (.int (g i j) s.toks) { s with toks:=s.toks+1 }->Ξ (γ X.prog X.w) X.A (f (.int i t) (.int j u)) Q E s) :
  bH X f (fK fun i j => .int (g i j)):=by
 intro pins s σ H x y v u Q I rx ry h
 replace h:=vU h
 obtain ⟨i,j,rfl,rfl,q⟩:=h;obtain ⟨t,rfl⟩:=rx;obtain ⟨t',rfl⟩:=ry;exact rule i j t t' s _ _ ⟨.int (g i j),H,I.tok _,⟨_,rfl⟩,q⟩
theorem rQ {f:Α->Α->Sem Α} {g:Int->Int->Bool}
  (rule:∀ (i j:Int) (t u:Tok) (s:Δ) (Q:Α->Δ->Prop) (E:Α->Δ->Prop),Q (.bool (g i j)) s->Ξ (γ X.prog X.w) X.A (f (.int i t) (.int j u)) Q E s) :
  bH X f (fK fun i j => .bl (g i j)):=by
 intro pins s σ H x y v u Q I rx ry h
 replace h:=vU h
 obtain ⟨i,j,rfl,rfl,q⟩:=h;obtain ⟨t,rfl⟩:=rx;obtain ⟨t',rfl⟩:=ry;exact rule i j t t' s _ _ ⟨.bl (g i j),H,I,rfl,q⟩
def vY (i j:Int):Prop:=0<=j/\j<=1000000/\i.natAbs<2^64
def qJ (i j:Int):Prop:=(-(2^64)<i/\i<2^64)\/(-(2^64)<j/\j<2^64)
theorem qJ.ok {i j:Int} (h:qJ i j):IntMulOk i j:=by
 rcases h with ⟨h1,h2⟩ | ⟨h1,h2⟩
 ·exact .of_left (intBits_le_64 h1 h2)
 ·exact .of_right (intBits_le_64 h1 h2)
theorem YT:bH X (fq .Add) (fK fun i j => .int (i+j)):=vX fun _ _ _ _ _ _ _ q=>add_int q
theorem Vc:bH X (fq .Sub) (fK fun i j => .int (i - j)):=vX fun _ _ _ _ _ _ _ q=>sub_int q
theorem Xc:bH X (fq .Mod) (rI (fun _ j=>0<j) fun i j => .int (i%j)):=rP fun i j _ _ _ _ _ hc q=>by
 have h1:(0:Int)<j:=hc;exact mod_int' (by omega) (by rw [Int.fmod_eq_emod_of_nonneg i (by omega)];exact q)
theorem Ur:bH X (fq .Pow) (rI vY fun i j => .int (i^j.toNat)):=rP fun _ _ _ _ _ _ _ hc q=>pow_int_small hc.1 hc.2.1 hc.2.2 q
theorem Pu {f:Α->Sem Α} {g:Int->Int}
  (rule:∀ (i:Int) (t:Tok) (s:Δ) (Q:Α->Δ->Prop) (E:Α->Δ->Prop),Q (.int (g i) s.toks) { s with toks:=s.toks+1 }->Ξ (γ X.prog X.w) X.A (f (.int i t)) Q E s) :
  vV X f (rU fun i => .int (g i)):=by
 intro pins s σ H x v Q I rx h;obtain ⟨i,rfl,q⟩:=US.mp h;obtain ⟨t,rfl⟩:=rx;exact rule i t s _ _ ⟨.int (g i),H,I.tok _,⟨_,rfl⟩,q⟩
theorem Ws:vV X (unaryOp .USub) (rU fun i => .int (-i)):=Pu fun _ _ _ _ _ q=>neg_int q
end
def rR:V->V->Bool
 | .non,.non=>true | .non,.int _=>true | .int _,.non=>true | .non,.bl _=>true | .bl _,.non=>true | .non,.str _=>true | .str _,.non=>true
 | .int _,.int _=>true | .bl _,.bl _=>true | .str _,.str _=>true | .d9 _,.d9 _=>true
 | .int _,.str _=>true | .str _,.int _=>true | .bl _,.str _=>true | .str _,.bl _=>true
 | _,_=>false
def kEq (x y:V) (k:Bool->Prop):Prop:=match x,y with
 | .int i,.int j=>k (decide (i=j))
 | .str i,.str j=>k (decide (i=j))
 | x,y=>rR x y=true/\k (decide (x=y))
theorem FJ (i j:Int) (k:Bool->Prop):kEq (.int i) (.int j) k=k (decide (i=j)):=rfl
theorem FN (i j:Str) (k:Bool->Prop):kEq (.str i) (.str j) k=k (decide (i=j)):=rfl
theorem vZ {x y:V} {k:Bool->Prop}:kEq x y k↔rR x y=true/\k (decide (x=y)):=by
 unfold kEq
 split
 ·rename_i i j
  rw [show decide (V.int i=V.int j)=decide (i=j) from by simp];exact ⟨fun h=>⟨rfl,h⟩,fun h=>h.2⟩
 ·rename_i i j
  rw [show decide (V.str i=V.str j)=decide (i=j) from by simp];exact ⟨fun h=>⟨rfl,h⟩,fun h=>h.2⟩
 ·exact Iff.rfl
def oF:R2:=fun x y H Q=>kEq x y fun b=>Q (.bl b) H
def v7:R2:=fun x y H Q=>kEq x y fun b=>Q (.bl (!b)) H
theorem FP {i j:Int}:decide (V.int i=V.int j)=(i==j):=by
 rw [ip];simp
theorem FQ {i j:Bool}:decide (V.bl i=V.bl j)=(i==j):=by
 rw [ip];simp
theorem FT {i j:Str}:decide (V.str i=V.str j)=(i==j):=by
 rw [ip];simp
theorem FW {i j:Array UInt8}:decide (V.d9 i=V.d9 j)=(i.toList==j.toList):=by
 rw [ip]
 cases i
 cases j
 simp
section
variable {X:Cx} {a b c:Expr} {ta tb tc:TE} {pos:Pos}
theorem YL {pins:List (Addr×Obj)} {σ:St} {H:Hp} {s:Δ} {Q:VK} {k k':Bool} (I:Inv X pins σ H s) (q:Q (.bl k) H) (e:k=k'):EP X pins σ Q (.bool k') s:=by
 subst e;exact ⟨.bl k,H,I,rfl,q⟩
theorem YK:bH X (bt .Eq) oF:=by
 intro pins s σ H x y v u Q I rx ry h;obtain ⟨hs,q⟩:=vZ.mp h
 cases x with
 | non =>
  cases rx
  cases y with
  | non=>cases ry;exact PySem.EqNone.eq_none_none (YL I q (by simp))
  | bl j=>cases ry;exact PySem.EqNone.eq_none_bool (YL I q (by simp))
  | int j=>obtain ⟨t',rfl⟩:=ry;exact PySem.EqNone.eq_none_int (YL I q (by simp))
  | str j=>obtain ⟨t',rfl⟩:=ry;exact PySem.EqNone.eq_none_str (YL I q (by simp))
  | _=>exact absurd (show false=true from hs) ζ
 | bl i =>
  cases rx
  cases y with
  | non=>cases ry;exact PySem.EqNone.eq_bool_none (YL I q (by simp))
  | bl j=>cases ry;exact eq_bool (YL I q FQ)
  | str j=>obtain ⟨t',rfl⟩:=ry;exact PySem.EqMixed.eq_bool_str (YL I q (by simp))
  | _=>exact absurd (show false=true from hs) ζ
 | int i =>
  obtain ⟨t,rfl⟩:=rx
  cases y with
  | non=>cases ry;exact PySem.EqNone.eq_int_none (YL I q (by simp))
  | int j=>obtain ⟨t',rfl⟩:=ry;exact eq_int (YL I q FP)
  | str j=>obtain ⟨t',rfl⟩:=ry;exact PySem.EqMixed.eq_int_str (YL I q (by simp))
  | _=>exact absurd (show false=true from hs) ζ
 | str i =>
  obtain ⟨t,rfl⟩:=rx
  cases y with
  | non=>cases ry;exact PySem.EqNone.eq_str_none (YL I q (by simp))
  | bl j=>cases ry;exact PySem.EqMixed.eq_str_bool (YL I q (by simp))
  | int j=>obtain ⟨t',rfl⟩:=ry;exact PySem.EqMixed.eq_str_int (YL I q (by simp))
  | str j=>obtain ⟨t',rfl⟩:=ry;exact eq_str (YL I q FT)
  | _=>exact absurd (show false=true from hs) ζ
 | d9 i =>
  obtain ⟨t,rfl⟩:=rx
  cases y with
  | d9 j=>obtain ⟨t',rfl⟩:=ry;exact W.eq_bytes (YL I q FW)
  | _=>exact absurd (show false=true from hs) ζ
 | _=>cases y<;>exact absurd (show false=true from hs) ζ
theorem DY:bH X (bt .NotEq) v7:=by
 intro pins s σ H x y v u Q I rx ry h;obtain ⟨hs,q⟩:=vZ.mp h
 cases x with
 | non =>
  cases rx
  cases y with
  | non=>cases ry;exact PySem.EqNone.ne_none_none (YL I q (by simp))
  | bl j=>cases ry;exact PySem.EqNone.ne_none_bool (YL I q (by simp))
  | int j=>obtain ⟨t',rfl⟩:=ry;exact PySem.EqNone.ne_none_int (YL I q (by simp))
  | str j=>obtain ⟨t',rfl⟩:=ry;exact PySem.EqNone.ne_none_str (YL I q (by simp))
  | _=>exact absurd (show false=true from hs) ζ
 | bl i =>
  cases rx
  cases y with
  | non=>cases ry;exact PySem.EqNone.ne_bool_none (YL I q (by simp))
  | bl j=>cases ry;exact ne_bool (YL I q (congrArg not FQ))
  | str j=>obtain ⟨t',rfl⟩:=ry;exact PySem.EqMixed.ne_bool_str (YL I q (by simp))
  | _=>exact absurd (show false=true from hs) ζ
 | int i =>
  obtain ⟨t,rfl⟩:=rx
  cases y with
  | non=>cases ry;exact PySem.EqNone.ne_int_none (YL I q (by simp))
  | int j=>obtain ⟨t',rfl⟩:=ry;exact ne_int (YL I q (congrArg not FP))
  | str j=>obtain ⟨t',rfl⟩:=ry;exact PySem.EqMixed.ne_int_str (YL I q (by simp))
  | _=>exact absurd (show false=true from hs) ζ
 | str i =>
  obtain ⟨t,rfl⟩:=rx
  cases y with
  | non=>cases ry;exact PySem.EqNone.ne_str_none (YL I q (by simp))
  | bl j=>cases ry;exact PySem.EqMixed.ne_str_bool (YL I q (by simp))
  | int j=>obtain ⟨t',rfl⟩:=ry;exact PySem.EqMixed.ne_str_int (YL I q (by simp))
  | str j=>obtain ⟨t',rfl⟩:=ry;exact ne_str (YL I q (congrArg not FT))
  | _=>exact absurd (show false=true from hs) ζ
 | d9 i =>
  obtain ⟨t,rfl⟩:=rx
  cases y with
  | d9 j=>obtain ⟨t',rfl⟩:=ry;exact W.ne_bytes (YL I q (congrArg not FW))
  | _=>exact absurd (show false=true from hs) ζ
 | _=>cases y<;>exact absurd (show false=true from hs) ζ
theorem FZ:bH X (bt .Lt) (fK fun i j => .bl (decide (i<j))):=rQ fun _ _ _ _ _ _ _ q=>lt_int q
theorem QT:bH X (bt .LtE) (fK fun i j => .bl (decide (i<=j))):=rQ fun _ _ _ _ _ _ _ q=>le_int q
theorem Us:bH X (bt .Gt) (fK fun i j => .bl (decide (j<i))):=rQ fun _ _ _ _ _ _ _ q=>gt_int q
theorem Ga:bH X (bt .GtE) (fK fun i j => .bl (decide (j<=i))):=rQ fun _ _ _ _ _ _ _ q=>ge_int q
theorem Px:bH X (bt .In) (fun x y H Q=>∃ i j,x = .str i/\y = .str j/\Q (.bl (!(Builtin.Str.occurrences j i 0 j.length 1).isEmpty)) H):=by
 intro pins s σ H x y v u Q I rx ry h;obtain ⟨i,j,rfl,rfl,q⟩:=h;obtain ⟨t,rfl⟩:=rx;obtain ⟨t',rfl⟩:=ry;exact in_str (YL I q rfl)
theorem Ut:bH X (bt .Is) (fun x y H Q=>y = .non/\Q (.bl (decide (x = .non))) H):=by
 intro pins s σ H x y v u Q I rx ry h;obtain ⟨rfl,q⟩:=h
 cases ry
 refine is_none_gen (YL I q ?_)
 cases x<;>first
  | (cases rx;rfl)
  | (obtain ⟨t,rfl⟩:=rx;rfl)
theorem VR:bH X (bt .IsNot) (fun x y H Q=>y = .non/\Q (.bl (!decide (x = .non))) H):=by
 intro pins s σ H x y v u Q I rx ry h;obtain ⟨rfl,q⟩:=h
 cases ry
 refine isnot_none_gen (YL I q ?_)
 cases x<;>first
  | (cases rx;rfl)
  | (obtain ⟨t,rfl⟩:=rx;rfl)
theorem Yo (b:Expr) {op:CmpOp} (h:op ≠ .In:=by decide) (h2:op ≠ .NotIn:=by decide):iN op b=false:=by
 have e1:(op==CmpOp.In)=false:=by cases op<;>first | rfl | exact absurd rfl h
 have e2:(op==CmpOp.NotIn)=false:=by cases op<;>first | rfl | exact absurd rfl h2
 cases b<;>simp [iN,e1,e2]
theorem Xe {op:CmpOp} {r:R2} (ho:bH X (bt op) r) (ha:PE X a ta) (hb:PE X b tb) (hm:iN op b=false):PE X (.Compare a [op] [b] pos) (iI r ta tb):=by
 intro pins s σ H Q I h;exact wpAny_Compare1 (qI ha hb I h fun v u s2 x y H2 I2 rx ry q=>ho pins s2 σ H2 x y v u Q I2 rx ry q) hm
def Uu (t:TE):TT:=fun σ H Q=>t σ H fun x H'=>kB x fun k=>Q k H'
theorem Yq {op:CmpOp} {r:R2} (ho:bH X (bt op) r) (ha:PE X a ta) (hb:PE X b tb) (hm:iN op b=false):PT X (.Compare a [op] [b] pos) (Uu (iI r ta tb)):=by
 intro pins s σ H Q I h;refine wpAny_isTrue_Compare1 (aG (ha pins s σ H _ I h) fun v s1 ⟨x,H1,I1,r1,q1⟩=>aG (hb pins s1 σ H1 _ I1 q1) fun u s2 ⟨y,H2,I2,r2,q2⟩ =>
  aG (ho pins s2 σ H2 x y v u _ I2 r1 r2 q2) fun c s3 ⟨z,H3,I3,r3,q3⟩=>?_) hm
 replace q3:=UT.mp q3
 obtain ⟨k,e,q3⟩:=q3;subst e
 cases r3
 exact d4 ⟨H3,I3,q3⟩
def v8 (r r':R2) (ta tb tc:TE):TE:=fun σ H Q=>ta σ H fun x H1=>tb σ H1 fun y H2=>r x y H2 fun z H3=>kB z fun k =>
 (if k=true then tc σ H3 fun w' H4=>r' y w' H4 Q else Q (.bl false) H3)
theorem Py {op op':CmpOp} {r r':R2} (ho:bH X (bt op) r) (ho':bH X (bt op') r') (ha:PE X a ta) (hb:PE X b tb) (hc:PE X c tc)
  (hm:lastMarks [op,op'] [b,c]=false):PE X (.Compare a [op,op'] [b,c] pos) (v8 r r' ta tb tc):=by
 intro pins s σ H Q I h;refine Compare_chain (aG (ha pins s σ H _ I h) fun v s1 ⟨x,H1,I1,r1,q1⟩=>chain_link (aG (hb pins s1 σ H1 _ I1 q1) fun u s2 ⟨y,H2,I2,r2,q2⟩ =>
  aG (ho pins s2 σ H2 x y v u _ I2 r1 r2 q2) fun d s3 ⟨z,H3,I3,r3,q3⟩=>?_)) hm
 replace q3:=UT.mp q3
 obtain ⟨k,e,q3⟩:=q3;subst e
 cases r3
 refine d4 ?_
 cases k with
 | false=>exact ite_ff ⟨.bl false,H3,I3,rfl,q3⟩
 | true=>exact ite_tt (chain_last (aG (hc pins s3 σ H3 _ I3 q3) fun w' s4 ⟨z',H4,I4,r4,q4⟩=>ho' pins s4 σ H4 y z' u w' Q I4 r2 r4 q4))
theorem Vy:(sizeLine:Nat)<2^63:=by rw [sizeLine_eq];decide
theorem Pz:bH X (fq .Add) (fun x y H Q=>∃ i j,x = .str i/\y = .str j/\i.length+j.length<=sizeLine/\Q (.str (i++j)) H):=by
 intro pins s σ H x y v u Q I rx ry h;obtain ⟨i,j,rfl,rfl,hz,q⟩:=h;obtain ⟨t,rfl⟩:=rx;obtain ⟨t',rfl⟩:=ry;exact add_str (fun t' tk=>⟨.str (i++j),H,I.tok _,⟨_,rfl⟩,q⟩) hz
theorem X8 {x:V} {us:List Α} (r:Yw [x] us):∃ u,us=[u]/\YA x u:=by
 cases r with
 | cons r1 r2=>cases r2;exact ⟨_,rfl,r1⟩
theorem vals2 {x y:V} {us:List Α} (r:Yw [x,y] us):∃ u w',us=[u,w']/\YA x u/\YA y w':=by
 cases r with
 | cons r1 r2 =>
  cases r2 with
  | cons r3 r4=>cases r4;exact ⟨_,_,rfl,r1,r3⟩
def Gb:List V->Hp->VK->Prop:=fun xs H Q=>k2 xs fun x y=>kI x fun i=>kI y fun j=>Q (.int (if j>i then j else i)) H
def Gd:List V->Hp->VK->Prop:=fun xs H Q=>k2 xs fun x y=>kI x fun i=>kI y fun j=>Q (.int (if j<i then j else i)) H
theorem PB:Xv X (.type "int") (fun xs H Q=>(∃ i,xs=[.int i]/\Q (.int i) H)\/∃ k,xs=[.bl k]/\Q (.int (if k then 1 else 0)) H):=by
 intro pins s σ H xs us Q I r h;rcases h with ⟨i,rfl,q⟩ | ⟨k,rfl,q⟩
 ·obtain ⟨u,rfl,t,rfl⟩:=X8 r
  exact call_int_int ⟨.int i,H,I,⟨_,rfl⟩,q⟩
 ·obtain ⟨u,rfl,r1⟩:=X8 r
  cases r1
  exact call_int_bool ⟨.int (if k then 1 else 0),H,I.tok _,⟨_,rfl⟩,q⟩
end
structure fX (h:Heap) (x dx C:Addr) (mA:Str->Option Α):Prop where
 obj:h.get? x=some (fw C dx)
 ns:h.Ns1 dx mA
 ne:dx≠x
theorem PK {h:Heap} {dx:Addr} {mA:Str->Option Α} (n:h.Ns1 dx mA):∃ od,h.get? dx=some od/\∀ name,W.lookIn name od=some (mA name):=by
 obtain ⟨o,es,ep,ho,hd,hk,_,hm⟩:=n;refine ⟨o,ho,fun name=>?_⟩;have e:=hm name;unfold nsFind findBy at e;rw [<- Array.find?_toList] at e
 unfold W.lookIn;rw [hd];dsimp only
 split
 ·rename_i y q
  rw [q] at e
  exact congrArg some e
 ·rename_i q
  rw [q] at e
  have a:es.toList.any (·.refKey)=false:=by
   rw [List.any_eq_false];intro y hy;obtain ⟨z,t,hkey⟩:=hk y (Array.mem_toList_iff.mp hy);simp [DictEntry.refKey,hkey]
  have a':¬ es.toList.any (·.refKey)=true:=by rw [a];exact ζ
  rw [if_neg a'];exact congrArg some e
theorem fX.look {h:Heap} {x dx C:Addr} {mA:Str->Option Α} (I:fX h x dx C mA):∃ od,W.InstAt h x (fw C dx) C (some od)/\∀ name,W.lookIn name od=some (mA name) :=
 let ⟨od,ho,hl⟩:=PK I.ns
 ⟨od,⟨I.obj,rfl,rfl,ho⟩,hl⟩
section
variable {prog:Ο} {w:ε} {A:τ} {E:Α->Δ->Prop} {s:Δ} {K:Κ} {x dx C f:Addr} {mA:Str->Option Α} {name:Str} {v:Α}
theorem PL {expr:Bool} {Q:Α->Δ->Prop} (X:K.In s.heap) (I:fX s.heap x dx C mA) (hg:W.plainGet K C name=true) (hh:W.hasDictIn K C=true)
  (ha:eC K (.ref C) name=some none) (hv:mA name=some v) (hv':W.handedIn v=true) (h:Q v { s with toks:=s.toks+1 }) :
  Ξ (γ prog w) A (getAttr (.ref x) name expr) Q E s:=by
 obtain ⟨od,J,hl⟩:=I.look;exact W.get_value X J (W.plainGet_of hg).1 (W.findObj_own hh ha rfl (by rw [hl,hv])) hv' h
theorem PN {pl:Sem Bool} {Q:Α×List Α->Δ->Prop} (X:K.In s.heap) (I:fX s.heap x dx C mA) (hg:W.plainGet K C name=true)
  (hf:eC K (.ref C) name=some (some (.ref f))) (ht:W.isFn K (.ref f)=true) (hv:mA name=none) (h:Q (.ref f,[.ref x]) s) :
  Ξ (γ prog w) A (getMethod (.ref x) name pl) Q E s:=by
 obtain ⟨od,J,hl⟩:=I.look;exact W.method_fn X J (W.plainGet_of hg).1 (W.plainGet_of hg).2 hf (beq_iff_eq.mp ht) (by show (W.lookIn name od).map (·.isSome)=some false;rw [hl,hv];rfl) h
theorem PX {ns:List Str} {Q:Unit->Δ->Prop} (X:K.In s.heap) (I:fX s.heap x dx C mA)
  (hs:eC K (.ref C) "__setattr__"=some (some (.builtin "object.__setattr__"))) (hp:W.plainOver K C=true) (ht:W.takerIn K C name=some none) (hh:W.hasDictIn K C=true)
  (hw:PySem.Within mA ns) (hsz:ns.length<=sizeLine)
  (h:∀ h',fX h' x dx C (fun y=>if y=name then some v else mA y)->cp dx s.heap h'->Q () { s with heap:=h',toks:=s.toks+2 }) :
  Ξ (γ prog w) A (setAttr (.ref x) name v) Q E s:=by
 obtain ⟨od,J,hl⟩:=I.look;refine W.set_plain X J hs (W.osa_open (s:={ s with toks:=s.toks+1 }) (r:=none) X J hp ht fun b=>?_);obtain ⟨cd,hc,hd'⟩:=W.any_some hh;have hx:s.heap.get? x=some ⟨.ref C,some dx,.plain,#[]⟩:=I.obj;refine Θ (Ψ (Θ (Θ (wpAny_loadPart hx (Θ (W.Looks.here (s:={ s with toks:=s.toks+1 }) (W.looks_clsIn X hc) ?_))))));rw [hd'];refine Ψ (a:=some dx) (Θ (Ψ (Θ ?_)));refine wpAny_nsSet1 (s:={ s with toks:=s.toks+1 }) I.ns fun h' hn2 hs2=>?_
 obtain ⟨oD,esD,epD,hoD,hdD,hcD⟩:=hn2.count (PySem.Within.cons name v hw);refine Θ (wpAny_lookBehind hoD (by rw [hdD];exact pastItsLine_dict (ah hcD (by rw [am];omega))) ?_);exact Ψ (h _ ⟨(hs2.2 _ (ω I.ne)).trans I.obj,hn2,I.ne⟩ hs2)
theorem P0 {R:Result->Δ->Prop} {vs:List Α} {kw:List (Str×Α)} (X:K.In s.heap) (hm:W.makesIn K C=true)
  (hi:eC K (.ref C) "__init__"=some (some (.ref f))) (hf:W.typeIn K (.ref f)=some (.type "function"))
  (h:f6 (γ prog w) (A.under (.builtin "type.__call__" ⟨.ref C::vs,kw⟩)) (.call (.ref f) ⟨.ref (s.heap.objs.size+1)::vs,kw⟩) (W.InitBack (s.heap.objs.size+1) R)
   { s with heap:=(s.heap.push eI).push (fw C s.heap.objs.size) }) :
  f6 (γ prog w) A (.call (.ref C) ⟨vs,kw⟩) R s:=by
 obtain ⟨hh,g,d,t,os⟩:=s;exact W.make_core (W.makes_of X hm) (W.looks_findIn X hi) (fun self=>W.bind_fn X self hf) (.inl rfl) h
end
def Y1 (f:Str) (v:V):List (Str×V)->List (Str×V)
 | []=>[(f,v)]
 | (g,x)::r=>if g=f then (g,v)::r else (g,x)::Y1 f v r
theorem V6 (f g:Str) (v:V):∀ fs:List (Str×V),(Y1 f v fs).lookup g=if g=f then some v else fs.lookup g
 | []=>by
  show b7 g [(f,v)]=_
  by_cases h:g=f
  ·have hb:(g==f)=true:=beq_iff_eq.mpr h
   simp only [b7,hb,if_pos h]
  ·have hb:(g==f)=false:=beq_eq_false_iff_ne.mpr h
   simp only [b7,hb,if_neg h]
 | (k,x)::r=>by
  have ih:=V6 f g v r;rw [show Y1 f v ((k,x)::r)=(if k=f then (k,v)::r else (k,x)::Y1 f v r) from rfl];by_cases hk:k=f
  ·rw [if_pos hk]
   by_cases h:g=k
   ·have hb:(g==k)=true:=beq_iff_eq.mpr h
    simp only [b7,hb,if_pos (h.trans hk)]
   ·have hb:(g==k)=false:=beq_eq_false_iff_ne.mpr h
    simp only [b7,hb,if_neg (fun e:g=f=>h (e.trans hk.symm))]
  ·rw [if_neg hk]
   by_cases h:g=k
   ·have hb:(g==k)=true:=beq_iff_eq.mpr h
    simp only [b7,hb,if_neg (fun e:g=f=>hk (h.symm.trans e))]
   ·have hb:(g==k)=false:=beq_eq_false_iff_ne.mpr h
    simp only [b7,hb];exact ih
theorem Vz (f:Str) (v:V):∀ fs:List (Str×V),f∈(Y1 f v fs).map (·.1)/\∀ g,g∈fs.map (·.1)->g∈(Y1 f v fs).map (·.1)
 | []=>⟨by simp [Y1],fun g h=>by simp at h⟩
 | (k,x)::r=>by
  obtain ⟨i1,i2⟩:=Vz f v r;rw [show Y1 f v ((k,x)::r)=(if k=f then (k,v)::r else (k,x)::Y1 f v r) from rfl];by_cases hk:k=f
  ·rw [if_pos hk]
   subst hk;exact ⟨by simp,fun g h=>by simpa using h⟩
  ·rw [if_neg hk]
   refine ⟨?_,fun g h=>?_⟩
   ·rw [af]
    exact bq _ i1
   ·rw [af] at h ⊢
    rcases Υ.mp h with e | e
    ·exact Υ.mpr (.inl e)
    ·exact bq _ (i2 g e)
theorem V7 (f:Str) (v:V):∀ fs:List (Str×V),(Y1 f v fs).length<=fs.length+1
 | []=>by simp [Y1]
 | (k,x)::r=>by
  have ih:=V7 f v r;rw [show Y1 f v ((k,x)::r)=(if k=f then (k,v)::r else (k,x)::Y1 f v r) from rfl];by_cases hk:k=f
  ·rw [if_pos hk,am,am];omega
  ·rw [if_neg hk,am,am];omega
theorem X3.some_of {v:V} {o:Option Α} (r:X3 (some v) o):∃ u,o=some u/\YA v u:=by
 cases o with
 | none=>exact (show False from r).elim
 | some u=>exact ⟨u,rfl,r⟩
theorem X3.none_of {o:Option Α} (r:X3 none o):o=none:=by
 cases o with
 | none=>rfl
 | some u=>exact (show False from r).elim
theorem Ra {v:V} {u:Α} (r:YA v u):W.handedIn u=true:=by
 cases v with
 | non=>cases (show u=bE from r);rfl
 | bl b=>cases (show u=i4 b from r);rfl
 | int i=>obtain ⟨t,e⟩:=(show ∃ t,u=jn i t from r);cases e;rfl
 | str x=>obtain ⟨t,e⟩:=(show ∃ t,u=iE x t from r);cases e;rfl
 | d9 b=>obtain ⟨t,e⟩:=(show ∃ t,u=Value.bytes b t from r);cases e;rfl
 | flt b=>obtain ⟨t,e⟩:=(show ∃ t,u=Value.float b t from r);cases e;rfl
 | ref a=>cases (show u=ac a from r);rfl
 | ty n=>cases (show u=eQ n from r);rfl
section
variable {P:Ο} {w:ε} {H H':Hp} {h h':Heap} {a C dx:Addr} {fs fs':List (Str×V)}
theorem VS (hok:aX P w H h) (e:H a=some (.ins C dx fs)):∃ mA,fX h a dx C mA/\(∀ f,X3 (fs.lookup f) (mA f))/\PySem.Within mA (fs.map (·.1))/\fs.length<=1000/\H dx=some (.own a):=by
 obtain ⟨d,z,ne,ob,mA,n,r,q⟩:=(show YN P w H h a (.ins C dx fs) from hok a _ e);exact ⟨mA,⟨ob,n,ne⟩,r,q,z,d⟩
end
structure Cls (K:Κ) (C:Addr):Prop where
 pg:W.plainGet K C Str.empty=true
 hd:W.hasDictIn K C=true
 po:W.plainOver K C=true
 sa:eC K (.ref C) "__setattr__"=some (some (.builtin "object.__setattr__"))
theorem Cls.get {K:Κ} {C:Addr} (c:Cls K C) (f:Str):W.plainGet K C f=true:=c.pg
def Yt (K:Κ) (C:Addr) (f:Str):Prop:=eC K (.ref C) f=some none
theorem Yt.taker {K:Κ} {C:Addr} {f:Str} (n:Yt K C f):W.takerIn K C f=some none:=by
 unfold W.takerIn;rw [show eC K (.ref C) f=some none from n];rfl
structure Meth (K:Κ) (C:Addr) (m:Str) (f:Addr):Prop where
 at_:eC K (.ref C) m=some (some (.ref f))
 fn:W.isFn K (.ref f)=true
 kp:ef K (.ref f)=true
section
variable {X:Cx} {pins:List (Addr×Obj)} {σ:St} {H:Hp} {s:Δ} {a C dx:Addr} {fs:List (Str×V)} {f:Str} {v:V} {A:τ} {E:Α->Δ->Prop}
theorem Rb {b:Bool} {Q:Α->Δ->Prop} (I:Inv X pins σ H s) (e:H a=some (.ins C dx fs)) (c:Cls X.K C) (n:Yt X.K C f) (l:fs.lookup f=some v)
  (h:∀ u s',Inv X pins σ H s'->YA v u->Q u s'):Ξ (γ X.prog X.w) A (getAttr (.ref a) f b) Q E s:=by
 obtain ⟨mA,O,r,_,_,_⟩:=VS I.hok e;obtain ⟨u,hu,ru⟩:=X3.some_of (v:=v) (o:=mA f) (by rw [<- l];exact r f);exact PL I.bJ O (c.get f) c.hd n hu (Ra ru) (h u _ (I.tok _) ru)
theorem Rc {m:Str} {g:Addr} {pl:Sem Bool} {Q:Α×List Α->Δ->Prop} (I:Inv X pins σ H s) (e:H a=some (.ins C dx fs)) (c:Cls X.K C) (k:Meth X.K C m g) (l:fs.lookup m=none)
  (h:Q (.ref g,[.ref a]) s):Ξ (γ X.prog X.w) A (getMethod (.ref a) m pl) Q E s:=by
 obtain ⟨mA,O,r,_,_,_⟩:=VS I.hok e;have hn:mA m=none:=X3.none_of (by rw [<- l];exact r m);exact PN I.bJ O (c.get m) k.at_ k.fn hn h
theorem Rf {y:V} {u:Α} {Q:Unit->Δ->Prop} (I:Inv X pins σ H s) (e:H a=some (.ins C dx fs)) (c:Cls X.K C) (n:Yt X.K C f) (hl:fs.length<1000) (ry:YA y u)
  (h:∀ s',Inv X pins σ (upd H a (.ins C dx (Y1 f y fs))) s'->Q () s'):Ξ (γ X.prog X.w) A (setAttr (.ref a) f u) Q E s:=by
 obtain ⟨mA,O,r,wi,_,ho⟩:=VS I.hok e;have hz:(fs.map (·.1)).length<=sizeLine:=by rw [Ε,sizeLine_eq];omega
 refine PX I.bJ O c.sa c.po n.taker c.hd wi hz fun h' O' sb=>h _ ?_
 have hd:∃ o,h'.get? dx=some o:=let ⟨o,_,_,e',_⟩:=O'.ns;⟨o,e'⟩
 refine I.write (x:=a) (e:=dx) (by rw [e];exact da) (.inr ho) (fun b q hb z=>(sb.2 b hb).trans z) hd ?_;refine ⟨by rw [Yg O.ne];exact ho,?_,O.ne,O'.obj,_,O'.ns,fun g=>?_,fun g hg=>?_⟩
 ·have:=V7 f y fs;omega
 ·show X3 ((Y1 f y fs).lookup g) (if g=f then some u else mA g)
  rw [V6];by_cases q:g=f
  ·rw [if_pos q,if_pos q];exact ry
  ·rw [if_neg q,if_neg q];exact r g
 ·by_cases q:g=f
  ·rw [q];exact (Vz f y fs).1
  ·refine (Vz f y fs).2 g (wi g fun z=>hg ?_)
   show (if g=f then some u else mA g)=none
   rw [if_neg q];exact z
theorem Inv.made (I:Inv X pins σ H s):Inv X pins σ (upd (upd H s.heap.objs.size (.own (s.heap.objs.size+1))) (s.heap.objs.size+1) (.ins C s.heap.objs.size []))
  { s with heap:=(s.heap.push eI).push (fw C s.heap.objs.size) }:=by
 have e1:(s.heap.push eI).get? s.heap.objs.size=some W.emptyDict:=Ω s.heap rfl;have e2:((s.heap.push eI).push (fw C s.heap.objs.size)).get? (s.heap.objs.size+1)=some (fw C s.heap.objs.size):=by
  have:=Ω (s.heap.push eI) (o:=fw C s.heap.objs.size) rfl
  rwa [di] at this
 have e3:(s.heap.push eI).Ns s.heap.objs.size (fun _=>none):=⟨eI,#[],_,e1,rfl,(fun e he=>absurd he (by simp)),fun _=>rfl⟩;have I1:=I.laid (a:=s.heap.objs.size) (o := .own (s.heap.objs.size+1)) (h':=s.heap.push eI) (t':=s.toks) (fun b u q=>Η _ q) (Μ _) ⟨_,e1⟩;refine I1.laid (a:=s.heap.objs.size+1) (o := .ins C s.heap.objs.size []) (t':=s.toks) (fun b u q=>Η _ q) (Nat.le_of_eq (di _ _)) ?_;have ne:s.heap.objs.size≠s.heap.objs.size+1:=υ (Nat.lt_succ_self _);refine ⟨by rw [Yg ne,Yb],az _,ne,e2,fun _=>none,(Heap.Ns1.of_empty e3).at fun o q=>Η _ q,fun _=>da,fun y hy=>absurd rfl hy⟩
theorem Rg {prog:Ο} {w:ε} {env:Env} {e:Expr} {f:Str} {pos:Pos} {s:Δ} {Q:Α->Δ->Prop} (hb:er e f env (eval e env)=eval e env)
  (h:Ξ (γ prog w) A (eval e env) (fun o s₁=>Ξ (γ prog w) A (getAttr o f true) Q E s₁) E s):Ξ (γ prog w) A (eval (.Attribute e f pos) env) Q E s :=
 Attribute_any_ h (by rw [arm_eval_Attribute,hb])
end
inductive MN (K:Κ) (H:Hp) (a:Addr) (f:Str) (Q:V->Prop):Prop
 | mk (C dx:Addr) (fs:List (Str×V)) (h:H a=some (.ins C dx fs)) (c:Cls K C) (n:Yt K C f) (v:V) (l:fs.lookup f=some v) (q:Q v)
inductive MP (K:Κ) (H:Hp) (a:Addr) (f:Str) (Q:Addr->Addr->List (Str×V)->Prop):Prop
 | mk (C dx:Addr) (fs:List (Str×V)) (h:H a=some (.ins C dx fs)) (c:Cls K C) (n:Yt K C f) (l:fs.length<1000) (q:Q C dx fs)
def qK (K:Κ) (ta:TE) (f:Str):TE:=fun σ H Q=>ta σ H fun x H1=>kR x fun a=>MN K H1 a f fun v=>Q v H1
def qL (K:Κ) (ta tv:TE) (f:Str):TS:=fun D σ H=>tv σ H fun y H1=>ta σ H1 fun x H2=>kR x fun a=>MP K H2 a f fun C dx fs=>D.nx σ (upd H2 a (.ins C dx (Y1 f y fs)))
section
variable {X:Cx} {o e value:Expr} {f:Str} {pos pos' tpos:Pos} {ta tv:TE}
theorem Xl (he:PE X e ta) (hb:er e f X.env (eval e X.env)=eval e X.env):PE X (.Attribute e f pos) (qK X.K ta f):=by
 intro pins s σ H Q I h;refine Rg hb (aG (he pins s σ H _ I h) fun u s1 ⟨x,H1,I1,rx,q⟩=>?_)
 replace q:=W0.mp q
 obtain ⟨a,ex,C,dx,fs,ea,c,n,v,l,q⟩:=q;subst ex;obtain rfl:u=ac a:=rx;exact Rb I1 ea c n l fun u' s2 I2 ru=>⟨v,H1,I2,ru,q⟩
theorem X9 (ha:PE X o ta) (hv:PE X value tv) (hs:swapsWith value (some (.Attribute o f pos')) pos.line X.env=pure false):PS X (.Assign [.Attribute o f pos'] value pos) (qL X.K ta tv f):=by
 intro pins s σ H D I h;refine plainObj_wpAny_Assign_Attribute (aG (hv pins s σ H _ I h) fun u s1 ⟨y,H1,I1,ry,q⟩=>aG (ha pins s1 σ H1 _ I1 q) fun ov s2 ⟨x,H2,I2,rx,q2⟩=>?_) hs
 replace q2:=W0.mp q2
 obtain ⟨a,ex,C,dx,fs,ea,c,n,l,q2⟩:=q2;subst ex;obtain rfl:ov=ac a:=rx;exact Rf I2 ea c n l ry fun s3 I3=>⟨σ,_,I3,q2⟩
end
section
variable {X:Cx} {pins:List (Addr×Obj)} {σ:St} {H:Hp} {s:Δ} {A:τ} {E:Α->Δ->Prop} {Q:Α->Δ->Prop} {c:Α} {b:Bool}
inductive cC (K:Κ) (H:Hp):V->Α->Prop where
 | non:cC K H .non (.type "NoneType")
 | bl (x:Bool):cC K H (.bl x) (.type "bool")
 | int (i:Int):cC K H (.int i) (.type "int")
 | str (x:Str):cC K H (.str x) (.type "str")
 | flt (x:UInt64):cC K H (.flt x) (.type "float")
 | lst {a:Addr} {xs:List V} (e:H a=some (.lst xs)):cC K H (.ref a) (.type "list")
 | bF {a:Addr} {o:Obj} {xs:List V} (e:H a=some (.bF o (.lst xs))):cC K H (.ref a) (.type "list")
 | tup {a:Addr} {xs:List V} (e:H a=some (.tup xs)):cC K H (.ref a) (.type "tuple")
 | dK {a:Addr} {kvs:List (Key×V)} (e:H a=some (.dK kvs)):cC K H (.ref a) (.type "dict")
 | dT {a:Addr} {kvs:List (List Key×V)} (e:H a=some (.dT kvs)):cC K H (.ref a) (.type "dict")
 | ins {a C dx:Addr} {fs:List (Str×V)} (e:H a=some (.ins C dx fs)) (cl:Cls K C) (ha:eC K (.ref C) "__class__"=some (some (.builtin "object.__class__")))
   (hn:W.specialIn K (.builtin "object.__class__") "__get__"=some (some (.builtin "getset_descriptor.__get__"))) (htk:W.takesIn K (.builtin "object.__class__")=some true)
   (hm:W.mroIn K C (.type "object")=some true):cC K H (.ref a) (.ref C)
theorem Rh {x:V} {u t:Α} (I:Inv X pins σ H s) (rx:YA x u) (ty:cC X.K H x t) (e:W.kitOne X.K t c=some b) (h:∀ tk,Q (.bool b) { s with toks:=tk }) :
  Ξ (γ X.prog X.w) A (call (.builtin "isinstance") [u,c]) Q E s:=by
 cases ty with
 | non=>cases (show u=bE from rx);exact ee W.kitx_none I.bJ da e (fun z=>nomatch z) h
 | bl y=>cases (show u=i4 y from rx);exact ee W.kitx_bool I.bJ da e (fun z=>nomatch z) h
 | int i=>obtain ⟨t,q⟩:=(show ∃ t,u=jn i t from rx);cases q;exact ee W.kitx_int I.bJ da e (fun z=>nomatch z) h
 | str y=>obtain ⟨t,q⟩:=(show ∃ t,u=iE y t from rx);cases q;exact ee W.kitx_str I.bJ da e (fun z=>nomatch z) h
 | flt y=>obtain ⟨t,q⟩:=(show ∃ t,u=Value.float y t from rx);cases q;exact ee W.kitx_float I.bJ da e (fun z=>nomatch z) h
 | @lst a xs ea =>
  cases (show u=ac a from rx)
  obtain ⟨_,_,n,_,h1⟩:=(show YN X.prog X.w H s.heap a (.lst xs) from I.hok a _ ea);exact ee W.kitx_list I.bJ ⟨_,h1,rfl⟩ e (fun z=>nomatch z) h
 | @bF a ob xs ea =>
  cases (show u=ac a from rx)
  obtain ⟨_,_,_,n,_,h1⟩:=(show YN X.prog X.w H s.heap a (.bF ob (.lst xs)) from I.hok a _ ea);exact ee W.kitx_list I.bJ ⟨_,h1,rfl⟩ e (fun z=>nomatch z) h
 | @tup a xs ea =>
  cases (show u=ac a from rx)
  obtain ⟨_,_,_,p⟩:=(show YN X.prog X.w H s.heap a (.tup xs) from I.hok a _ ea);obtain ⟨o,h1,h2,_⟩:=p;exact ee W.kitx_tuple I.bJ ⟨o,h1,h2⟩ e (fun z=>nomatch z) h
 | @dK a kvs ea =>
  cases (show u=ac a from rx)
  obtain ⟨_,_,vs,_,p⟩:=(show YN X.prog X.w H s.heap a (.dK kvs) from I.hok a _ ea);obtain ⟨o,es,ep,h1,h2,_⟩:=p;exact ee W.kitx_dict I.bJ ⟨o,h1,h2.1⟩ e (fun z=>nomatch z) h
 | @dT a kvs ea =>
  cases (show u=ac a from rx)
  obtain ⟨_,_,xs,_,o,es,ep,h1,h2,_⟩:=(show YN X.prog X.w H s.heap a (.dT kvs) from I.hok a _ ea);exact ee W.kitx_dict I.bJ ⟨o,h1,h2.1⟩ e (fun z=>nomatch z) h
 | @ins a C dx fs ea cl ha hn htk hm =>
  cases (show u=ac a from rx)
  obtain ⟨mA,O,_⟩:=VS I.hok ea;obtain ⟨od,J,_⟩:=O.look;exact ee (W.kitx_own (cl.get _) cl.hd ha hn htk hm) I.bJ J e (fun z=>nomatch z) h
end
structure aM (k:Nat) (A:τ):Prop where
 hd:A.handled=none
 dp:A.depth+3*k+5<recursionLimit
 un:A.units+16*k+200<cLine
 gd:A.guards=some []
theorem aM.mono {j k:Nat} {A:τ} (r:aM k A) (h:j<=k):aM j A:=⟨r.hd,by have:=r.dp;omega,by have:=r.un;omega,r.gd⟩
theorem aM.deeper {k:Nat} {A:τ} (r:aM (k+1) A) (env:Env):aM k (A.deeper env) :=
 ⟨r.hd,by have:=r.dp;show A.depth+1+3*k+5<_;omega,by have:=r.un;show A.units+3+16*k+200<_;omega,r.gd⟩
theorem Ri {A:τ} {C:Addr} {us:List Α} {kw:List (Str×Α)}:(A.under (.builtin "type.__call__" ⟨.ref C::us,kw⟩)).depth=A.depth+1:=by
 first | rfl | simp [jj,Code.weight,Code.isCreation,Code.isGuard,Code.isCaller,Code.frames,jb,guardIds]
theorem Rj {A:τ} {C:Addr} {us:List Α} {kw:List (Str×Α)}:(A.under (.builtin "type.__call__" ⟨.ref C::us,kw⟩)).units=A.units+1:=by
 first | rfl | simp [jj,Code.cUnits,Code.frames,jb]
theorem aM.make {k:Nat} {A:τ} (r:aM (k+1) A) (C:Addr) (us:List Α) (kw:List (Str×Α)):aM k (A.under (.builtin "type.__call__" ⟨.ref C::us,kw⟩)) :=
 ⟨r.hd,by have:=r.dp;rw [Ri];omega,by have:=r.un;rw [Rj];omega,by first | exact r.gd | simpa [jj,Code.isGuard,jb,guardIds] using r.gd⟩
theorem aM.depth {k:Nat} {A:τ} (r:aM k A):A.depth<recursionLimit:=by have:=r.dp;omega
theorem aM.units {k:Nat} {A:τ} (r:aM k A):A.units+64<cLine:=by have:=r.un;omega
def UV:TA:=fun _ H Q=>Q [] H
def Uv (ta:TE) (tr:TA):TA:=fun σ H Q=>ta σ H fun x H1=>tr σ H1 fun xs H2=>Q (x::xs) H2
section
variable {X:Cx} {e:Expr} {es:List Expr} {te:TE} {t:TA} {pos:Pos}
theorem Yc:PA X [] UV:=fun _ _ _ _ H Q I h=>Calls.spliced_nil ⟨[],H,I,.nil,h⟩
theorem Ya (ha:PE X e te) (hr:PA X es t) (hs:Φ (e::es) X.env=(false,eval e X.env)::Φ es X.env):PA X (e::es) (Uv te t):=by
 intro pos pins s σ H Q I h;rw [hs]
 show Ξ _ _ (spliced ((false,eval e X.env)::bv pos (Φ es X.env))) _ _ s
 refine Calls.spliced_cons (aG (ha pins s σ H _ I h) fun u s1 ⟨x,H1,I1,r1,q1⟩=>?_);exact aG (hr pos pins s1 σ H1 _ I1 q1) fun us s2 ⟨xs,H2,I2,r2,q2⟩=>⟨x::xs,H2,I2,.cons r1 r2,q2⟩
def qM (t:TA):TE:=fun σ H Q=>t σ H fun xs H1=>xs.length<=sizeLine/\∀ p,H1 p=none->Q (.ref p) (upd H1 p (.tup xs))
def qN (t:TA):TE:=fun σ H Q=>t σ H fun xs H1=>xs.length<=sizeLine/\∀ p,H1 p=none->Q (.ref p) (upd H1 p (.lst xs))
theorem YZ {x1} (h:PA X es t):PE X (.Tuple es x1 pos) (qM t):=by
 intro pins s σ H Q I hq;refine wpAny_Tuple_spliced (aG (h pos pins s σ H _ I hq) fun us s1 ⟨xs,H1,I1,r,z,q⟩=>⟨by rw [<- r.length];exact z,?_⟩);have hf:H1 s1.heap.objs.size=none:=I1.hok.fresh (Μ _);refine ⟨.ref s1.heap.objs.size,upd H1 s1.heap.objs.size (.tup xs),I1.laid (t':=s1.toks) (fun b u e=>Η _ e) (Μ _) ?_,rfl,q _ hf⟩;exact ⟨z,us,r,⟨_,Ω _ rfl,rfl,_,rfl⟩⟩
theorem YU (h:PA X es t):PE X (.List es pos) (qN t):=by
 intro pins s σ H Q I hq;refine wpAny_List_spliced (aG (h pos pins s σ H _ I hq) fun us s1 ⟨xs,H1,I1,r,z,q⟩=>⟨by rw [<- r.length];exact z,?_⟩);have hf:H1 s1.heap.objs.size=none:=I1.hok.fresh (Μ _);refine ⟨.ref s1.heap.objs.size,upd H1 s1.heap.objs.size (.lst xs),I1.laid (t':=s1.toks) (fun b u e=>Η _ e) (Μ _) ?_,rfl,q _ hf⟩;exact ⟨z,us,0,r,Ω _ rfl⟩
end
abbrev Sp:=List V->Hp->VK->XK->Prop
abbrev dh:=List Env->Hp->Δ->XK->Α->Δ->Prop
structure cV (P:Ο) (w:ε) (K:Κ) (mg:Str->Option Α) (base:Heap) (A:τ) (outer:List Env) (s:Δ) (H:Hp):Prop where
 frames:A.frames=some outer
 mod:Mod K mg base
 bs:∀ b o,base.get? b=some o->s.heap.get? b=some o/\H b=none
 eE:base.objs.size<=s.heap.objs.size
 cj:s.heap.FunFrames base outer
 eG:∀ b∈frs outer,H b=none
 hok:aX P w H s.heap
 bare:f7 s.gens
def CE (outer:List Env) (P:Ο) (w:ε) (H:Hp) (s:Δ) (Q:VK) (u:Α) (s':Δ):Prop :=
 ∃ v H',s'.os=s.os/\f7 s'.gens/\Un (frs outer) [] H H' s.heap s'.heap/\aX P w H' s'.heap/\YA v u/\Q v H'
def CR (CX:dh) (outer:List Env) (P:Ο) (w:ε) (H:Hp) (s:Δ) (Q:VK) (E:XK) (r:Result) (s':Δ):Prop :=
 match r with
 | .ok (.ret u)=>CE outer P w H s Q u s'
 | .ok _=>False
 | .error e=>CX outer H s E e s'
structure aY (P:Ο) (w:ε) (K:Κ) (mg:Str->Option Α) (base:Heap) (CX:dh) (k:Nat) (f:Addr) (fd:bg) (ps:List Str) (sp:Sp):Prop where
 len:∀ vs H Q E,sp vs H Q E->vs.length=ps.length
 run:∀ (A:τ) (outer:List Env) (s:Δ) (H:Hp) (args:Args) (us:List Α) (vs:List V) (Q:VK) (E:XK),aM k A->cV P w K mg base A outer s H->BindsTo s fd args (ps.zip us)->Yw vs us->sp vs H Q E ->
  f6 (γ P w) A (.call (.ref f) args) (CR CX outer P w H s Q E) s
theorem aY.mono {P:Ο} {w:ε} {K:Κ} {mg:Str->Option Α} {base:Heap} {CX:dh} {j k:Nat} {f:Addr} {fd:bg} {ps:List Str} {sp:Sp} (F:aY P w K mg base CX j f fd ps sp) (h:j<=k) :
  aY P w K mg base CX k f fd ps sp:=⟨F.len,fun A outer s H args us vs Q E hr=>F.run A outer s H args us vs Q E (hr.mono h)⟩
theorem cV.make {P:Ο} {w:ε} {K:Κ} {mg:Str->Option Α} {base:Heap} {A:τ} {outer:List Env} {s:Δ} {H:Hp} (e:cV P w K mg base A outer s H) (C:Addr) (us:List Α) (kw:List (Str×Α)) :
  cV P w K mg base (A.under (.builtin "type.__call__" ⟨.ref C::us,kw⟩)) outer s H:=⟨by first | exact e.frames | (simpa [jj,Code.envs,jb,pushEnvs] using e.frames),e.mod,e.bs,e.eE,e.cj,e.eG,e.hok,e.bare⟩
section
variable {X:Cx} {pins:List (Addr×Obj)} {σ:St} {H:Hp} {s s':Δ}
theorem Inv.env0 (I:Inv X pins σ H s):cV X.prog X.w X.K X.mg X.base X.A X.stack s H :=
 ⟨I.ok.frames,I.ok.mod,I.bs,ah I.ok.eE I.sz,I.stack,I.lR,I.hok,I.bare⟩
theorem Inv.after {Q:VK} {u:Α} (I:Inv X pins σ H s) (h:CE X.stack X.prog X.w H s Q u s'):EP X pins σ Q u s':=by
 obtain ⟨v,H',os,bare,un,hok,r,q⟩:=h;obtain ⟨hh,g,d,t,os'⟩:=s';obtain rfl:os'=s.os:=os;exact ⟨v,H',I.call (h':=hh) (g':=g) (d':=d) (t':=t) (ch:=[]) un hok bare (fun b z=>absurd z (by simp)),r,q⟩
end
def Vl (sp:Sp) (bB:List V) (E:XK) (t:TA):TE:=fun σ H Q=>t σ H fun vs H1=>sp (vs++bB) H1 Q E
inductive Rk (H:Hp) (a C:Addr) (m:Str) (Q:Prop):Prop
 | mk (dx:Addr) (fs:List (Str×V)) (h:H a=some (.ins C dx fs)) (l:fs.lookup m=none) (q:Q)
def QU (C:Addr) (m:Str) (sp:Sp) (bB:List V) (E:XK) (ta:TE) (t:TA):TE:=fun σ H Q=>ta σ H fun x H1=>kR x fun a=>Rk H1 a C m (t σ H1 fun vs H2=>sp (.ref a::(vs++bB)) H2 Q E)
def QV (C:Addr) (sp:Sp) (bB:List V) (E:XK) (t:TA):TE:=fun σ H Q=>t σ H fun vs H1=>∀ x dx,H1 x=none->H1 dx=none->dx≠x ->
 sp (.ref x::(vs++bB)) (upd (upd H1 dx (.own x)) x (.ins C dx [])) (fun v H2=>v = .non/\Q (.ref x) H2) E
def Xq (K:Κ) (fd:bg) (ps:List Str) (ds:List Α):Prop :=
 ∀ (s:Δ) (us:List Α),K.In s.heap->(us++ds).length=ps.length->BindsTo s fd ⟨us,[]⟩ (ps.zip (us++ds))
theorem Xq.all {K:Κ} {fd:bg} {ps:List Str} (h:∀ us:List Α,us.length=ps.length->fo fd ⟨us,[]⟩=pure (ps.zip us)):Xq K fd ps []:=fun s us _ hl=>by
 rw [ay] at hl ⊢
 exact .of_eq (h us hl)
def Wa (CX:dh) (X:Cx) (E:XK):Prop:=∀ (pins:List (Addr×Obj)) (σ:St) (H:Hp) (s:Δ) (e:Α) (s':Δ),Inv X pins σ H s->CX X.stack H s E e s'->X.xe e s'
section
variable {X:Cx} {CX:dh} {k:Nat} {f C:Addr} {fd:bg} {ps:List Str} {sp:Sp} {bB:List V} {ds:List Α} {E:XK} {x m:Str} {p pos apos:Pos} {e o:Expr} {es:List Expr} {ta:TE} {t:TA}
theorem VA {pins:List (Addr×Obj)} {σ:St} {H:Hp} {s:Δ} {Q:VK} {us:List Α} {vs:List V} (F:aY X.prog X.w X.K X.mg X.base CX k f fd ps sp) (hr:aM k X.A) (hb:Xq X.K fd ps ds) (hd:Yw bB ds) (hx:Wa CX X E)
  (I:Inv X pins σ H s) (r:Yw vs us) (h:sp (vs++bB) H Q E):Ξ (γ X.prog X.w) X.A (call (.ref f) us) (EP X pins σ Q) X.xe s:=by
 have r2:Yw (vs++bB) (us++ds):=r.append hd;have hl:(us++ds).length=ps.length:=by rw [<- r2.length];exact F.len _ _ _ _ h
 refine wpAny_call (fA (F.run X.A X.stack s H ⟨us,[]⟩ (us++ds) (vs++bB) Q E hr I.env0 (hb s us I.bJ hl) r2 h) fun r s' hq=>?_)
 cases r with
 | error e=>exact hx pins σ H s e s' I hq
 | ok fl =>
  cases fl with
  | ret u=>exact I.after hq
  | next=>exact bi hq
  | brk=>exact bi hq
  | cont=>exact bi hq
theorem Ge (F:aY X.prog X.w X.K X.mg X.base CX k f fd ps sp) (hr:aM k X.A) (hg:Gl X x) (hm:X.mg x=some (.ref f)) (hk:ef X.K (.ref f)=true) (hb:Xq X.K fd ps ds) (hd:Yw bB ds) (hx:Wa CX X E)
  (ha:PA X (e::es) t) (hdb:(x==("__debug__":Str))=false:=by decide) (he:Φ (e::es) X.env=(false,eval e X.env)::Φ es X.env:=by rfl) (hpl:(bv pos (Φ es X.env)).any (·.1)=false:=by rfl) :
  PE X (.Call (.Name x p) (e::es) [] pos) (Vl sp bB E t):=by
 intro pins s σ H Q I h;refine bz (VP I hg hm ?_ hdb);refine eB (h₀:=X.base) I.ok.mod.iD hk (aG (ha pos pins s σ H _ I h) fun us s1 ⟨vs,H1,I1,r,q⟩=>⟨I1.bJ,?_⟩) he hpl;exact VA F hr hb hd hx I1 r q
theorem Rn {pl:Sem Bool} (he:PE X o ta) (c:Cls X.K C) (hm:Meth X.K C m f) (F:aY X.prog X.w X.K X.mg X.base CX k f fd ps sp) (hr:aM k X.A) (hb:Xq X.K fd ps ds) (hd:Yw bB ds) (hx:Wa CX X E) (ha:PA X (e::es) t)
  (hst:Φ (e::es) X.env=(false,eval e X.env)::Φ es X.env:=by rfl) (hpl:(bv pos (Φ es X.env)).any (·.1)=false:=by rfl)
  (ht:eval (.Call (.Attribute o m apos) (e::es) [] pos) X.env=(do
   let ov <- eval o X.env
   standAt apos.atName
   let (f,first) <- holding [ov] (getMethod ov m pl)
   callWith pos f first (bv pos (Φ (e::es) X.env)) (ir pos (e9 [] X.env))):=by rfl) :
  PE X (.Call (.Attribute o m apos) (e::es) [] pos) (QU C m sp bB E ta t):=by
 intro pins s σ H Q I h;refine PySem.W.methodCall_KW (pl:=pl) (aG (he pins s σ H _ I h) fun u s1 ⟨x,H1,I1,rx,q⟩=>?_) ht
 replace q:=W0.mp q
 obtain ⟨a,ex,dx,fs,ea,l,q⟩:=q;subst ex;obtain rfl:u=ac a:=rx;refine Rc I1 ea c hm l ?_;refine eB (first:=[.ref a]) (h₀:=X.base) I.ok.mod.iD hm.kp (aG (ha pos pins s1 σ H1 _ I1 q) fun us s2 ⟨vs,H2,I2,r,q2⟩=>⟨I2.bJ,?_⟩) hst hpl;exact VA (us := .ref a::us) (vs := .ref a::vs) F hr hb hd hx I2 (.cons rfl r) q2
structure Mk (K:Κ) (C f:Addr):Prop where
 makes:W.makesIn K C=true
 init:eC K (.ref C) "__init__"=some (some (.ref f))
 fn:W.isFn K (.ref f)=true
 kp:ef K (.ref C)=true
theorem Ro {pins:List (Addr×Obj)} {σ:St} {H:Hp} {s:Δ} {Q:VK} {us:List Α} {vs:List V} (M:Mk X.K C f) (F:aY X.prog X.w X.K X.mg X.base CX k f fd ps sp) (hr:aM (k+1) X.A) (hb:Xq X.K fd ps ds) (hd:Yw bB ds)
  (hx:Wa CX X E) (I:Inv X pins σ H s) (r:Yw vs us)
  (h:∀ x dx,H x=none->H dx=none->dx≠x->sp (.ref x::(vs++bB)) (upd (upd H dx (.own x)) x (.ins C dx [])) (fun v H2=>v = .non/\Q (.ref x) H2) E) :
  Ξ (γ X.prog X.w) X.A (call (.ref C) us) (EP X pins σ Q) X.xe s:=by
 have hq:=h (s.heap.objs.size+1) s.heap.objs.size (I.hok.fresh (Nat.le_succ _)) (I.hok.fresh (Μ _)) (υ (Nat.lt_succ_self _));have I2:=Inv.made (C:=C) I;have r2:Yw (V.ref (s.heap.objs.size+1)::(vs++bB)) (ac (s.heap.objs.size+1)::(us++ds)) := .cons rfl (r.append hd);have hl:(ac (s.heap.objs.size+1)::us++ds).length=ps.length:=by
  have e:=r2.length;rw [F.len _ _ _ _ hq] at e
  exact e.symm
 refine wpAny_call (P0 (f:=f) I.bJ M.makes M.init (beq_iff_eq.mp M.fn) (fA (F.run _ X.stack _ _ ⟨ac (s.heap.objs.size+1)::us,[]⟩ (ac (s.heap.objs.size+1)::(us++ds)) _ _ E (hr.make C us [])
  (I2.env0.make C us []) (hb _ (ac (s.heap.objs.size+1)::us) I2.bJ hl) r2 hq) fun r s' hq'=>?_))
 cases r with
 | error e=>exact hx pins σ _ _ e s' I2 hq'
 | ok fl =>
  cases fl with
  | ret u =>
   obtain ⟨v,H',I3,rv,ev,q3⟩:=I2.after hq';subst ev;exact ⟨rv,⟨V.ref (s.heap.objs.size+1),H',I3,rfl,q3⟩⟩
  | next=>exact bi hq'
  | brk=>exact bi hq'
  | cont=>exact bi hq'
theorem Rp (M:Mk X.K C f) (F:aY X.prog X.w X.K X.mg X.base CX k f fd ps sp) (hr:aM (k+1) X.A) (hg:Gl X x) (hm:X.mg x=some (.ref C)) (hb:Xq X.K fd ps ds) (hd:Yw bB ds) (hx:Wa CX X E)
  (ha:PA X (e::es) t) (hdb:(x==("__debug__":Str))=false:=by decide) (he:Φ (e::es) X.env=(false,eval e X.env)::Φ es X.env:=by rfl) (hpl:(bv pos (Φ es X.env)).any (·.1)=false:=by rfl) :
  PE X (.Call (.Name x p) (e::es) [] pos) (QV C sp bB E t):=by
 intro pins s σ H Q I h;refine bz (VP I hg hm ?_ hdb);refine eB (h₀:=X.base) I.ok.mod.iD M.kp (aG (ha pos pins s σ H _ I h) fun us s1 ⟨vs,H1,I1,r,q⟩=>⟨I1.bJ,?_⟩) he hpl;exact Ro M F hr hb hd hx I1 r q
end
structure ak (N P:List Str) (sc:cw):Prop where
 kind:sc.kind = .function
 co:sc.isCoroutine=false
 gen:sc.isGenerator=false
 nd:N.Nodup
 pre:N.take P.length=P
 par:∀ x∈P,sc.names.lookup x=some .local\/sc.names.lookup x=some .cell
 v9:∀ y∈sc.names,y.2 ≠ .free
theorem Qm {kindOf:Str->Option ft} {x:Str}:∀ {binds:List (Str×Α)} {m:Str->Option Α},(∀ v,(x,v)∉binds)->bindL kindOf binds m x=m x
 | [],_,_=>rfl
 | (n,v)::r,m,h=>by
  unfold bindL;rw [Qm fun w hw=>h w (bq _ hw)]
  split
  ·have:x≠n:=by rintro rfl;exact h v fF
   simp [this]
  ·rfl
theorem Qn {kindOf:Str->Option ft} {x:Str}:∀ {binds:List (Str×Α)} {m:Str->Option Α},(∀ v,(x,v)∉binds)->bindC kindOf binds m x=m x
 | [],_,_=>rfl
 | (n,v)::r,m,h=>by
  unfold bindC;rw [Qn fun w hw=>h w (bq _ hw)]
  split
  ·rfl
  ·have:x≠n:=by rintro rfl;exact h v fF
   simp [this]
theorem Qo {kindOf:Str->Option ft} {x:Str} {v:Α}:∀ {P:List Str} {vs:List Α} {i:Nat} {m:Str->Option Α},P.Nodup->P[i]?=some x->vs[i]?=some v->kindOf x=some .local ->
  bindL kindOf (P.zip vs) m x=some v
 | [],_,_,_,_,h,_,_=>by simp at h
 | _::_,[],_,_,_,_,h,_=>by simp at h
 | p::P,w::vs,0,m,nd,h1,h2,hk=>by
  simp at h1 h2;subst h1;subst h2
  show bindL kindOf ((p,w)::P.zip vs) m p=_
  unfold bindL;rw [Qm fun v hv=>(aS.mp nd).1 (dP hv).1,if_pos hk];simp
 | p::P,w::vs,i+1,m,nd,h1,h2,hk=>by
  show bindL kindOf ((p,w)::P.zip vs) m x=_
  unfold bindL;exact Qo (i:=i) (aS.mp nd).2 (by simpa using h1) (by simpa using h2) hk
theorem Qp {kindOf:Str->Option ft} {x:Str} {v:Α}:∀ {P:List Str} {vs:List Α} {i:Nat} {m:Str->Option Α},P.Nodup->P[i]?=some x->vs[i]?=some v->kindOf x≠some .local ->
  bindC kindOf (P.zip vs) m x=some v
 | [],_,_,_,_,h,_,_=>by simp at h
 | _::_,[],_,_,_,_,h,_=>by simp at h
 | p::P,w::vs,0,m,nd,h1,h2,hk=>by
  simp at h1 h2;subst h1;subst h2
  show bindC kindOf ((p,w)::P.zip vs) m p=_
  unfold bindC;rw [Qn fun v hv=>(aS.mp nd).1 (dP hv).1,if_neg hk];simp
 | p::P,w::vs,i+1,m,nd,h1,h2,hk=>by
  show bindC kindOf ((p,w)::P.zip vs) m x=_
  unfold bindC;exact Qp (i:=i) (aS.mp nd).2 (by simpa using h1) (by simpa using h2) hk
def Xz (N:List Str) (vs:List V):St:=vs.map some++List.replicate (N.length - vs.length) none
def Wu (CX:dh) (P:Ο) (w:ε) (K:Κ) (mg:Str->Option Α) (base:Heap) (N:List Str) (qual:Str) (scope:cw) (f:Addr) (cd:Α) (A:τ) (outer:List Env) (s:Δ) (H:Hp) (E:XK):Cx where
 prog:=P
 w:=w
 K:=K
 mg:=mg
 base:=base
 A:=A.deeper (ia qual scope s.heap.objs.size f cd)
 N:=N
 s₀:=s
 H₀:=H
 env:=ia qual scope s.heap.objs.size f cd
 outer:=outer
 stack:=ia qual scope s.heap.objs.size f cd::outer
 ex:=[]
 calm:=true
 fn:=fun _=>true
 pn:=[]
 xe:=fun e s'=>Ξ (γ P w) (A.deeper (ia qual scope s.heap.objs.size f cd)) (leaving (ia qual scope s.heap.objs.size f cd) e) (fun _ s''=>CX outer H s E e s'') (fun e' s''=>CX outer H s E e' s'') s'
theorem Gf {sc:cw} {n:Nat} {x:Str} (h:sc.names.lookup x=some .cell):∃ c,(cellsFrom n sc.names []).lookup x=some c:=by
 have q:=W.cellsFrom_some sc.names n [] (.inl h);exact Option.isSome_iff_exists.mp q
theorem Qq {CX:dh} {P:Ο} {w:ε} {K:Κ} {mg:Str->Option Α} {base:Heap} {N ps:List Str} {qual:Str} {scope:cw} {f:Addr} {cd:Α} {A:τ} {outer:List Env} {s s1:Δ} {H:Hp} {E:XK} {us:List Α} {vs:List V}
  (S:ak N ps scope) (hd:A.handled=none) (e0:cV P w K mg base A outer s H) (hl:vs.length=ps.length) (r:Yw vs us)
  (x:InCallC s s.heap.objs.size (bindL (ia qual scope s.heap.objs.size f cd).kindOf (ps.zip us) fun _=>none) (cellsFrom (s.heap.objs.size+1) scope.names []) (bindC (ia qual scope s.heap.objs.size f cd).kindOf (ps.zip us) fun _=>none) s1) :
  Inv (Wu CX P w K mg base N qual scope f cd A outer s H E) [] (Xz N vs) H s1:=by
 have hpl:ps.length<=N.length:=by have:=congrArg List.length S.pre;rw [ι] at this;omega
 obtain ⟨h1,tk,rfl,hk⟩:=x.done;have f9:∀ b:Addr,b∉(Wu CX P w K mg base N qual scope f cd A outer s H E).ex:=fun b z=>absurd (show b∈([]:List Addr) from z) (by simp)
 refine ⟨⟨e0.mod,S.kind,rfl,rfl,Μ _,fun y z c h1 h2=>?_,fun y hy=>?_,fun y c _ h=>?_,fun _=>hd,Around.frames_deeper e0.frames,.inr ⟨rfl,rfl⟩,fun b z=>absurd z (f9 b),e0.bs,e0.eE,fun b _ _=>f9 b,fun b z=>absurd z (f9 b),e0.cj,e0.eG⟩,
  rfl,e0.bare,Un.kept hk,⟨_,x.toInCall.ns,fun i y v h1 h2 h3=>?_⟩,fun y c h=>⟨_,x.cell y c h⟩,e0.hok.fresh (Μ _),fun y c h=>?_,fun p hp=>absurd (show p∈([]:List (Addr×Obj)) from hp) (by simp),e0.hok.kept hk,?_⟩
 ·exact name_of_addr x.apart (bu h1) (bu h2)
 ·have hy:scope.names.lookup y=some .cell\/scope.names.lookup y=some .free:=hy
  rcases hy with hy | hy
  ·exact Gf hy
  ·exact absurd rfl (S.v9 _ (bu hy))
 ·exact eK (x.above y c (bu h))
 ·have hi:i<vs.length:=by
   unfold Xz at h2;by_cases hi:i<vs.length
   ·exact hi
   ·rw [ar (by simpa using hi)] at h2
    rw [List.getElem?_replicate] at h2
    split at h2<;>cases h2
  have ha:vs[i]?=some v:=by
   unfold Xz at h2;rw [ag (by simpa using hi),Ν] at h2
   cases e:vs[i]? with
   | none=>rw [e] at h2;cases h2
   | some a=>rw [e] at h2;cases h2;rfl
  obtain ⟨u,hu,rv⟩:=r.get ha;have hp:ps[i]?=some y:=by
   rw [<- S.pre,List.getElem?_take_of_lt (by omega)];exact h1
  have rT:ps.Nodup:=by rw [<- S.pre];exact S.nd.sublist (List.take_sublist _ _)
  refine ⟨u,rv,?_⟩;rcases S.par y (Τ hp) with k | k
  ·exact .inl ⟨k,Qo rT hp hu k⟩
  ·obtain ⟨c,e⟩:=Gf (n:=s.heap.objs.size+1) k
   refine .inr ⟨.inl k,c,e,?_⟩;have q:=x.cell y c e;rw [Qp rT hp hu (by show scope.names.lookup y≠_;rw [k];decide)] at q
   exact q
 ·exact e0.hok.fresh (eK (x.above y c (bu h)))
 ·unfold Xz
  show _=N.length
  rw [Ζ,Ε,dQ];omega
theorem Gg {CX:dh} {P:Ο} {w:ε} {K:Κ} {mg:Str->Option Α} {base:Heap} {k:Nat} {f:Addr} {name qual:Str} {params:hV} {body:List Stmt} {scope:cw} {dV kV doc pm cdv ct oc:Α} {an od:Option Addr}
  {osl:Array (Option Α)} {N ps:List Str} {sp:Sp} (lk:K.lookup f=some ⟨oc,od,.func (c5 name qual params body scope dV kV doc pm an cdv ct),osl⟩) (hcd:gf K cdv qual=true) (S:ak N ps scope)
  (len:∀ vs H Q E,sp vs H Q E->vs.length=ps.length)
  (hbody:∀ (A:τ) (outer:List Env) (s:Δ) (H:Hp) (vs:List V) (Q:VK) (E:XK),aM k (A.deeper (ia qual scope s.heap.objs.size f cdv))->sp vs H Q E ->
   ∃ t,cW (Wu CX P w K mg base N qual scope f cdv A outer s H E) body t/\t { nx:=fun _ H'=>Q .non H',rt:=Q } (Xz N vs) H) :
  aY P w K mg base CX (k+1) f (c5 name qual params body scope dV kV doc pm an cdv ct) ps sp:=by
 refine ⟨len,fun A outer s H args us vs Q E hr e0 hb r hsp=>?_⟩;have hl:=len _ _ _ _ hsp;have KX:K.In s.heap:=e0.mod.iD.keeps fun b o e=>(e0.bs b o e).1
 have lim:s.heap.NoLimit:=e0.mod.nolimit.keeps fun b o e=>(e0.bs b o e).1
 have hkind:∀ y∈ps.zip us,scope.names.lookup y.1=some .local\/(scope.names.lookup y.1=some .cell/\((cellsFrom (s.heap.objs.size+1) scope.names []).lookup y.1).isSome=true):=fun ⟨n,v⟩ hy=>by
  rcases S.par n (dP hy).1 with q | q
  ·exact .inl q
  ·exact .inr ⟨q,W.cellsFrom_some _ _ _ (.inl q)⟩
 refine codeAny_call_function hr.depth (KX _ _ lk) rfl S.co S.gen rfl (W.codeRec_of KX hcd) (hb _ _ _ _ ?_);refine wpAny_newFunctionEnv_cells S.kind hkind fun env he s1 x=>?_
 subst he;refine ⟨lim.keeps x.toInCall.keep,codeAny_func ?_⟩;obtain ⟨t,ht,hq⟩:=hbody A outer s H vs Q E (hr.deeper _) hsp;have I:Inv (Wu CX P w K mg base N qual scope f cdv A outer s H E) [] (Xz N vs) H s1:=Qq S hr.hd e0 hl r x;refine bo (ht [] s1 (Xz N vs) H _ I hq) (fun fl s' hs=>?_) fun e s' hs=>hs
 have fin:∀ {σ':St} {H':Hp} {v:V} {u:Α},Inv (Wu CX P w K mg base N qual scope f cdv A outer s H E) [] σ' H' s'->YA v u->Q v H'->CE outer P w H s Q u s' :=
  fun {σ' H' v u} J rv q=>⟨v,H',J.os,J.bare,J.base,J.hok,rv,q⟩
 cases fl with
 | ret u =>
  obtain ⟨v,σ',H',J,rv,q⟩:=hs;exact fin J rv q
 | next =>
  obtain ⟨σ',H',J,q⟩:=hs;exact fin (v:=V.non) (u:=bE) J rfl q
 | brk =>
  obtain ⟨_,_,_,q⟩:=hs;exact bi q
 | cont =>
  obtain ⟨_,_,_,q⟩:=hs;exact bi q
section
variable {X:Cx} {x:Str} {p pos:Pos} {e:Expr} {es:List Expr} {t:TA} {id T:String} {r:List V->Hp->VK->Prop}
def lY (r:List V->Hp->VK->Prop) (t:TA):TE:=fun σ H Q=>t σ H fun vs H1=>r vs H1 Q
theorem Rq (hc:Xv X (.builtin id) r) (hg:Gl X x) (hm:X.mg x=none) (hv:dy x=some (.builtin id)) (ha:PA X (e::es) t) (hn:x≠"__name__":=by decide) (hdb:(x==("__debug__":Str))=false:=by decide)
  (he:Φ (e::es) X.env=(false,eval e X.env)::Φ es X.env:=by rfl) (hpl:(bv pos (Φ es X.env)).any (·.1)=false:=by rfl):PE X (.Call (.Name x p) (e::es) [] pos) (lY r t):=by
 intro pins s σ H Q I h;refine bz (XT I hg hm hv ?_ hn hdb);exact PyProof.Rows.callWith_builtin1 (aG (ha pos pins s σ H _ I h) fun us s1 ⟨vs,H1,I1,r1,q1⟩=>hc pins s1 σ H1 vs us Q I1 r1 q1) he hpl
theorem Rr (hc:Xv X (.type T) r) (hg:Gl X x) (hm:X.mg x=none) (hv:dy x=some (.type T)) (ha:PA X (e::es) t) (hn:x≠"__name__":=by decide) (hdb:(x==("__debug__":Str))=false:=by decide)
  (he:Φ (e::es) X.env=(false,eval e X.env)::Φ es X.env:=by rfl) (hpl:(bv pos (Φ es X.env)).any (·.1)=false:=by rfl):PE X (.Call (.Name x p) (e::es) [] pos) (lY r t):=by
 intro pins s σ H Q I h;refine bz (XT I hg hm hv ?_ hn hdb);exact be (aG (ha pos pins s σ H _ I h) fun us s1 ⟨vs,H1,I1,r1,q1⟩=>hc pins s1 σ H1 vs us Q I1 r1 q1) he hpl
end
end L2
namespace HT
open PySem PyProof.Rows
section
variable {prog:Ο} {w:ε} {A:τ} {E:Α->Δ->Prop} {s:Δ}
def aK (n d:Nat):Option Int->Nat
 | none=>d
 | some v=>if v<0 then (v+(n:Int)).toNat else min v.toNat n
theorem dZ (n d:Nat):aK n d none=d:=rfl
theorem c7 (n d k:Nat):aK n d (some (k:Int))=min k n:=by
 show (if (k:Int)<0 then ((k:Int)+(n:Int)).toNat else min (k:Int).toNat n)=min k n
 rw [if_neg (by omega),d6]
theorem jA (n d:Nat) (hd:d<=n) (o:Option Int):aK n d o<=n:=by
 cases o with
 | none=>exact hd
 | some v =>
  show (if v<0 then (v+(n:Int)).toNat else min v.toNat n)<=n
  by_cases hv:v<0
  ·rw [if_pos hv];omega
  ·rw [if_neg hv];exact Nat.min_le_right _ _
theorem Gh (v:Int) (n d:Nat):(if v<0 then max (v+(n:Int)) 0 else min v (n:Int))=((aK n d (some v):Nat):Int):=by
 show (if v<0 then max (v+(n:Int)) 0 else min v (n:Int))=(((if v<0 then (v+(n:Int)).toNat else min v.toNat n):Nat):Int)
 by_cases hv:v<0
 ·simp only [if_pos hv];omega
 ·simp only [if_neg hv];omega
theorem Rt (lo hi:Option Int) (n:Nat):Builtin.Slice.sliceAdjust lo hi 1 (n:Int)=(((aK n 0 lo:Nat):Int),((aK n n hi:Nat):Int)):=by
 have h1:¬ ((1:Int)<0):=by omega
 unfold Builtin.Slice.sliceAdjust;simp only [h1,if_false];refine Prod.ext ?_ ?_
 ·cases lo with
  | none=>rfl
  | some v=>exact Gh v n 0
 ·cases hi with
  | none=>rfl
  | some v=>exact Gh v n n
theorem Ru (i j:Nat):ed (i:Int) (j:Int) 1=j - i:=by
 unfold ed;have h1:(1:Int)>0:=by omega
 simp only [h1,if_true,Int.ediv_one]
 split<;>omega
theorem Uw {v:Α} {o:Option Int} {Q:Option Int->Δ->Prop} (p:IsPart v o) (h:Q o s):Ξ (γ prog w) A (Builtin.Slice.slicePartIndex v) Q E s:=by
 cases p with
 | none=>exact slicePart_none h
 | int i t=>exact slicePart_int h
theorem Ud {sl:Addr} {vl vu:Α} {lo hi:Option Int} {n:Nat} {Q:Int×Int×Nat->Δ->Prop} (hs:s.heap.IsSliceOf sl vl vu .none) (pl:IsPart vl lo) (pu:IsPart vu hi)
  (h:Q (((aK n 0 lo:Nat):Int),1,aK n n hi - aK n 0 lo) s):Ξ (γ prog w) A (Builtin.Slice.sliceApplied (.ref sl) (pure (n:Int))) Q E s:=by
 obtain ⟨os,hos,hcs,hds⟩:=id hs;unfold Builtin.Slice.sliceApplied Builtin.Slice.sliceFields;refine Θ (Θ (cr hos hds (x:=vl) rfl (Θ (cr hos hds (x:=vu) rfl (Θ (cr hos hds (x := .none) rfl (Ψ ?_)))))));refine Θ (slicePart_none ?_)
 show Ξ _ _ (if ((1:Int)==0)=true then _ else _) _ _ s
 rw [if_neg (by decide)];refine Θ (Uw pl (Θ (Uw pu (Θ (Ψ ?_)))))
 show Ξ _ _ (match Builtin.Slice.sliceAdjust lo hi 1 (n:Int) with | (lo,hi)=>pure (lo,(1:Int),ed lo hi 1)) _ _ s
 rw [Rt lo hi n]
 show Ξ _ _ (pure (((aK n 0 lo:Nat):Int),(1:Int),ed ((aK n 0 lo:Nat):Int) ((aK n n hi:Nat):Int) 1)) _ _ s
 rw [Ru];exact Ψ h
theorem Rv (xs:Array Α) (i k:Nat):((ai k).filterMap fun (m:Nat)=>xs[((i:Int)+(m:Int)*1).toNat]?).toArray=((xs.toList.drop i).take k).toArray:=by
 have e:(fun (m:Nat)=>xs[((i:Int)+(m:Int)*1).toNat]?)=fun m=>xs[i+m]?:=by
  funext m
  have:((i:Int)+(m:Int)*1).toNat=i+m:=by omega
  rw [this]
 rw [e];have:=pick_run xs i k;rw [List.filterMap_map] at this
 have e2:((fun x=>xs[x]?) ∘ fun x=>i+x)=fun m=>xs[i+m]?:=rfl
 rw [e2] at this
 rw [this]
theorem fH {t sl:Addr} {items:Array Α} {vl vu:Α} {lo hi:Option Int} {Q:Α->Δ->Prop} (ht:IsTup s.heap t items) (hs:s.heap.IsSliceOf sl vl vu .none) (pl:IsPart vl lo) (pu:IsPart vu hi)
  (hw:¬ (aK items.size 0 lo=0/\aK items.size items.size hi=items.size))
  (h:Q (.ref s.heap.objs.size) { s with heap:=s.heap.push { cls := .type "tuple",data := .seq ((items.toList.drop (aK items.size 0 lo)).take (aK items.size items.size hi - aK items.size 0 lo)).toArray } })
  (hsz:items.size<=sizeLine):Ξ (γ prog w) A (fT (.ref t) (.ref sl)) Q E s:=by
 have jr:sizeOk (.seq ((items.toList.drop (aK items.size 0 lo)).take (aK items.size items.size hi - aK items.size 0 lo)).toArray):=by
  show ((items.toList.drop (aK items.size 0 lo)).take (aK items.size items.size hi - aK items.size 0 lo)).toArray.size<=sizeLine
  rw [ν,ι,a8,Array.length_toList];omega
 have hj:aK items.size items.size hi<=items.size:=jA _ _ (Μ _) hi;obtain ⟨os,hos,hcs,hds⟩:=id hs;have hTs:s.TypeIs (.ref sl) "slice":=⟨os,hos,hcs⟩;unfold fT
 try with_reducible refine wpAny_holding ?_
 first | refine Θ (Ψ ?_) | skip
 refine Θ (wpAny_sequenceKey ht.typeIs (by decide) ?_);refine Θ (df (name:=bp "__getitem__") ht.typeIs PyProof.Rows.slot_tuple_getitem
  (c8 PyProof.Rows.slot_tuple_getitem ht.typeIs entry_tuple_getitem ?_ (args_tuple_getitem _ _)))
 show Ξ _ _ (Builtin.Tuple.tupleItemsOf (.ref t) >>= _) _ _ s
 refine Θ (tupleItemsOf_ ht ?_);refine Θ (wpAny_typeOf hTs ?_);rw [if_pos (by decide)];refine Θ (Ud hs pl pu ?_);have hno:¬ ((((aK items.size 0 lo:Nat):Int)==0&&(1:Int)==1&&(aK items.size items.size hi - aK items.size 0 lo)==items.size)=true):=by
  intro q;rw [dm,dm] at q
  have q1:((aK items.size 0 lo:Nat):Int)=0:=eq_of_beq q.1.1;have q2:aK items.size items.size hi - aK items.size 0 lo=items.size:=eq_of_beq q.2;exact hw ⟨by omega,by omega⟩
 show Ξ _ _ (if (((aK items.size 0 lo:Nat):Int)==0&&(1:Int)==1&&(aK items.size items.size hi - aK items.size 0 lo)==items.size)=true then _ else _) _ _ s
 rw [if_neg hno,Rv]
 first
  | exact Θ (m:=en _) (b9 (Ψ ⟨_,rfl,Ψ h⟩) jr)
  | exact Θ (m:=en _) (b9 (Θ (Ψ (Ψ ⟨_,rfl,Ψ h⟩))) jr)
  | exact Θ (Θ (m:=en _) (b9 (Ψ (Ψ ⟨_,rfl,Ψ h⟩)) jr))
  | exact Θ (Θ (m:=en _) (b9 (Ψ ⟨_,rfl,Ψ h⟩) jr))
end
end HT
namespace L2
open PySem PySem.Spec PyProof.Rows
abbrev TO:=St->Hp->(Option Int->Hp->Prop)->Prop
def PO (X:Cx) (e:Option Expr) (t:TO):Prop :=
 ∀ (pins:List (Addr×Obj)) (s:Δ) (σ:St) (H:Hp) (Q:Option Int->Hp->Prop),Inv X pins σ H s->t σ H Q ->
  Ξ (γ X.prog X.w) X.A (evalPart e X.env) (fun u s'=>∃ o H',Inv X pins σ H' s'/\IsPart u o/\Q o H') X.xe s
def UW:TO:=fun _ H Q=>Q none H
def wg (t:TE):TO:=fun σ H Q=>t σ H fun x H1=>kI x fun i=>Q (some i) H1
theorem Rw {ns:List Int}:∀ {us:List Α},Yw (ns.map V.int) us->IntsAre us ns:=by
 induction ns with
 | nil=>intro us r;rw [c6] at r;cases r;exact .nil
 | cons n ns ih =>
  intro us r;rw [af] at r
  cases r with
  | cons r1 r2 =>
   obtain ⟨t,e⟩:=r1;subst e;exact .cons n t (ih r2)
section
variable {X:Cx} {e:Expr} {te:TE} {lo hi:Option Expr} {tl th:TO} {pos p2:Pos}
theorem Xs:PO X none UW:=by
 intro pins s σ H Q I h;rw [iL];exact Ψ ⟨none,H,I,.none,h⟩
theorem Xf (h:PE X e te):PO X (some e) (wg te):=by
 intro pins s σ H Q I hw;rw [iF];refine aG (h pins s σ H _ I hw) fun u s1 ⟨x,H1,I1,r1,q1⟩=>?_
 obtain ⟨i,rfl,q⟩:=US.mp q1;obtain ⟨t,rfl⟩:=r1;exact ⟨some i,H1,I1,.int i t,q⟩
def oG (X:Cx) (r:V->Option Int->Option Int->Hp->VK->Prop):Prop :=
 ∀ (pins:List (Addr×Obj)) (s:Δ) (σ:St) (H:Hp) (x:V) (v vl vu:Α) (lo hi:Option Int) (sl:Addr) (Q:VK),Inv X pins σ H s->YA x v->s.heap.IsSliceOf sl vl vu .none->IsPart vl lo->IsPart vu hi->r x lo hi H Q ->
  ∃ T id,typeLookup (.type T) "__getitem__"=pure (some (.builtin id))/\s.TypeIs v T/\Ξ (γ X.prog X.w) X.A (fT v (.ref sl)) (EP X pins σ Q) X.xe s
def wj (r:V->Option Int->Option Int->Hp->VK->Prop) (te:TE) (tl th:TO):TE:=fun σ H Q=>te σ H fun x H1=>tl σ H1 fun l H2=>th σ H2 fun u H3=>r x l u H3 Q
theorem Y8 {r:V->Option Int->Option Int->Hp->VK->Prop} (hr:oG X r) (he:PE X e te) (hl:PO X lo tl) (hu:PO X hi th):PE X (.Subscript e (.Slice lo hi none p2) pos) (wj r te tl th):=by
 intro pins s σ H Q I h;refine i5 (aG (he pins s σ H _ I h) fun v s1 ⟨x,H1,I1,r1,q1⟩=>?_);refine wpAny_Slice (aG (hl pins s1 σ H1 _ I1 q1) fun vl s2 ⟨l,H2,I2,pl,q2⟩=>aG (hu pins s2 σ H2 _ I2 q2) fun vu s3 ⟨u,H3,I3,pu,q3⟩=>?_);rw [iL];refine Ψ ?_;have I4:Inv X pins σ H3 { s3 with heap:=s3.heap.push { cls := .type "slice",data := .fields #[vl,vu,.none] } }:=I3.kept (t':=s3.toks) fun b ob q=>Η _ q
 obtain ⟨T,id,hT,ht,hg⟩:=hr pins { s3 with heap:=s3.heap.push { cls := .type "slice",data := .fields #[vl,vu,.none] } } σ H3 x v vl vu l u s3.heap.objs.size Q I4 r1 (Heap.IsSliceOf.new ..) pl pu q3
 show Ξ (γ X.prog X.w) X.A (subscriptTail e (.Slice lo hi none p2) v (.ref s3.heap.objs.size)) (EP X pins σ Q) X.xe { s3 with heap:=s3.heap.push { cls := .type "slice",data := .fields #[vl,vu,.none] } }
 exact tail_any (ops:=[.ref s3.heap.objs.size,v]) ht hT hg (by with_unfolding_all rfl)
def Xr (xs:List V) (lo hi:Option Int):List V:=(xs.drop (HT.aK xs.length 0 lo)).take (HT.aK xs.length xs.length hi - HT.aK xs.length 0 lo)
theorem V8 (xs:List V) (lo hi:Option Int):(Xr xs lo hi).length<=xs.length:=by
 unfold Xr;rw [ι,a8];omega
def M4 (K:Κ):V->Option Int->Option Int->Hp->VK->Prop:=fun x lo hi H Q=>∃ a xs,x = .ref a/\aq K H a xs /\
 ¬ (HT.aK xs.length 0 lo=0/\HT.aK xs.length xs.length hi=xs.length)/\∀ p,H p=none->Q (.ref p) (upd H p (.tup (Xr xs lo hi)))
theorem Rx:oG X (M4 X.K):=by
 intro pins s σ H x v vl vu lo hi sl Q I rx hs pl pu h;obtain ⟨a,xs,rfl,hx,hw,q⟩:=h
 cases rx
 obtain ⟨its,r,ht,hz⟩:=I.tuple hx;have hlen:its.toArray.size=xs.length:=by rw [ν];exact r.length.symm
 refine ⟨"tuple",_,PyProof.Rows.slot_tuple_getitem.lookup,ht.typeIs,?_⟩;refine HT.fH ht hs pl pu (by rw [hlen];exact hw) ?_ (by rw [hlen];exact hz);rw [hlen];refine ⟨.ref s.heap.objs.size,_,I.laid (t':=s.toks) (o := .tup (Xr xs lo hi)) (fun b ob q=>Η _ q) (Μ _) ?_,rfl,q _ (I.hok.fresh (Μ _))⟩;exact ⟨ah (V8 xs lo hi) hz,_,(r.drop (HT.aK xs.length 0 lo)).take (HT.aK xs.length xs.length hi - HT.aK xs.length 0 lo),IsTup.new _ _⟩
end
def eO (n:Nat) (i:Int):Option Nat:=if 0<=i then (if i<n then some i.toNat else none) else if -(n:Int)<=i then some (i+n).toNat else none
def eU {α:Type} (xs:List α) (i:Int):Option α:=(eO xs.length i).bind fun j=>xs[j]?
theorem Ry {n:Nat} {i:Int} {j:Nat} (h:eO n i=some j):seqIndex? i n=some j/\j<n /\ -(n:Int)<=i/\i<n:=by
 unfold eO at h;by_cases h0:0<=i
 ·rw [if_pos h0] at h
  by_cases h1:i<n
  ·rw [if_pos h1] at h
   have e:i.toNat=j:=Λ h;exact ⟨by rw [seqIndex_of h0 h1,e],by omega,by omega,h1⟩
  ·rw [if_neg h1] at h;cases h
 ·rw [if_neg h0] at h
  by_cases h1 : -(n:Int)<=i
  ·rw [if_pos h1] at h
   have e:(i+n).toNat=j:=Λ h;exact ⟨by rw [seqIndex_neg (by omega) h1,e],by omega,h1,by omega⟩
  ·rw [if_neg h1] at h;cases h
theorem UX {α:Type} {xs:List α} {i:Int} {v:α} (h:eU xs i=some v):∃ j,seqIndex? i xs.length=some j/\xs[j]?=some v/\j<xs.length /\ -(xs.length:Int)<=i/\i<xs.length:=by
 unfold eU at h
 cases e:eO xs.length i with
 | none=>rw [e] at h;cases h
 | some j =>
  rw [e] at h
  obtain ⟨h1,h2,h3,h4⟩:=Ry e;exact ⟨j,h1,h,h2,h3,h4⟩
theorem Yk {α:Type} {xs:List α} {j:Nat} {v:α} (h:xs[j]?=some v):eU xs (j:Int)=some v:=by
 have hj:j<xs.length:=(Ι.mp h).1;have e:eO xs.length (j:Int)=some j:=by
  unfold eO;rw [if_pos (by omega),if_pos (by omega)];simp
 unfold eU;rw [e];exact h
def Rz (b:Expr):Prop:=∀ o i,subscripted b false o i=operate [o,i] (fT o i)
def oH (X:Cx) (r:R2):Prop :=
 ∀ (value slice:Expr) (pins:List (Addr×Obj)) (s:Δ) (σ:St) (H:Hp) (x y:V) (v u:Α) (Q:VK),Inv X pins σ H s->YA x v->YA y u->r x y H Q ->
  subscripted slice false v u=operate [v,u] (fT v u)->Ξ (γ X.prog X.w) X.A (subscriptTail value slice v u) (EP X pins σ Q) X.xe s
def jB (X:Cx) (id:String) (r:V->List V->Hp->VK->Prop):Prop :=
 ∀ (pins:List (Addr×Obj)) (s:Δ) (σ:St) (H:Hp) (x:V) (xs:List V) (v:Α) (us:List Α) (Q:VK),Inv X pins σ H s->YA x v->Yw xs us->r x xs H Q ->
  Ξ (γ X.prog X.w) X.A (call (.builtin id) (v::us)) (EP X pins σ Q) X.xe s
section
variable {X:Cx} {a b:Expr} {ta tb:TE} {pos:Pos}
theorem Yv {r:R2} (hr:oH X r) (ha:PE X a ta) (hb:PE X b tb) (hs:Rz b):PE X (.Subscript a b pos) (iI r ta tb):=by
 intro pins s σ H Q I h;exact i5 (qI ha hb I h fun v u s2 x y H2 I2 rx ry q=>hr a b pins s2 σ H2 x y v u Q I2 rx ry q (hs _ _))
inductive lZ (S:List V->Prop) (i:Int) (Q:V->Prop):Prop
 | mk (xs:List V) (h:S xs) (v:V) (e:eU xs i=some v) (q:Q v)
def qO (K:Κ):R2:=fun x y H Q=>kR x fun p=>kI y fun i=>lZ (ao K H p) i fun v=>Q v H
theorem lZ.e {S:Addr->List V->Prop} {x y:V} {Q:V->Prop} (h:kR x fun p=>kI y fun i=>lZ (S p) i Q):∃ p xs i v,x = .ref p/\y = .int i/\S p xs/\eU xs i=some v/\Q v:=by
 obtain ⟨p,e1,h⟩:=W0.mp h;obtain ⟨i,e2,xs,h1,v,h2,h3⟩:=US.mp h;exact ⟨p,xs,i,v,e1,e2,h1,h2,h3⟩
def rW (K:Κ):R2:=fun x y H Q=>kR x fun p=>kI y fun i=>lZ (aq K H p) i fun v=>Q v H
def M5:R2:=fun x y H Q=>∃ z i c,x = .str z/\y = .int i/\z.length<=sizeLine/\eU z.cps.toList i=some c/\Q (.str ⟨#[c]⟩) H
theorem Y9:oH X (qO X.K):=by
 intro value slice pins s σ H x y v u Q I rx ry h hs
 replace h:=lZ.e h
 obtain ⟨p,xs,i,z,rfl,rfl,hq,he,q⟩:=h
 cases rx
 obtain ⟨t,rfl⟩:=ry;obtain ⟨its,r,pl,hz⟩:=I.list hq;obtain ⟨j,h1,h2,h3,h4,h5⟩:=UX he;obtain ⟨w,ew,eF⟩:=r.get h2;have hl:=r.length;have hn:=Vy;have fin:EP X pins σ Q w s:=⟨z,H,I,eF,q⟩;by_cases h0:0<=i
 ·have hj:i.toNat=j:=by
   rw [seqIndex_of h0 h5] at h1
   exact Λ h1
  exact item_listR pl.isList h0 (by omega) (by rw [hj];simpa using ew) fin hs
 ·have hj:(i+(its.toArray.size:Int)).toNat=j:=by
   rw [seqIndex_neg (by omega) h4] at h1
   rw [ν,<- hl];exact Λ h1
  exact subscriptTail_builtinR (x:=w) pl.isList.typeIs slot_list_getitem.lookup
   (wpAny_getItem_list_neg (Q:=fun r s'=>r=w/\EP X pins σ Q r s') pl.isList (by omega) (by rw [ν]<;>omega) (by omega) (by rw [hj];simpa using ew) ⟨rfl,fin⟩) hs
theorem YD:oH X (rW X.K):=by
 intro value slice pins s σ H x y v u Q I rx ry h hs
 replace h:=lZ.e h
 obtain ⟨p,xs,i,z,rfl,rfl,hq,he,q⟩:=h
 cases rx
 obtain ⟨t,rfl⟩:=ry;obtain ⟨its,r,pl,hz⟩:=I.tuple hq;obtain ⟨j,h1,h2,h3,h4,h5⟩:=UX he;obtain ⟨w,ew,eF⟩:=r.get h2;have hl:=r.length;have hn:=Vy;have fin:EP X pins σ Q w s:=⟨z,H,I,eF,q⟩;exact subscriptTail_builtinR (x:=w) pl.typeIs slot_tuple_getitem.lookup
  (getItem_tuple (j:=j) (Q:=fun r s'=>r=w/\EP X pins σ Q r s') pl (by omega) (by omega) (by rw [ν,<- hl];exact h1) (by simpa using ew) ⟨rfl,fin⟩) hs
theorem RB:oH X M5:=by
 intro value slice pins s σ H x y v u Q I rx ry h hs;obtain ⟨z,i,c,rfl,rfl,hz,he,q⟩:=h;obtain ⟨t,rfl⟩:=rx;obtain ⟨t',rfl⟩:=ry;obtain ⟨j,h1,h2,h3,h4,h5⟩:=UX he;have hl:z.cps.toList.length=z.length:=by simp [Str.length]
 rw [hl] at h1 h4 h5
 have hn:=Vy;exact tail_any (typeIs_str s z t) slot_str_getitem.lookup (getItem_str (c:=c) (by
  have e1:decide (i < -(2^63:Int))=false:=decide_eq_false (by omega);have e2:decide (i>=2^63)=false:=decide_eq_false (by omega);rw [e1,e2,Bool.or_false]) (by rw [h1];simpa using h2) ⟨.str ⟨#[c]⟩,H,I.tok _,⟨_,rfl⟩,q⟩) hs
def Gi:V->V->V->Hp->(Hp->Prop)->Prop:=fun o i v H Q=>∃ p xs k j,o = .ref p/\i = .int k/\H p=some (.lst xs)/\eO xs.length k=some j/\Q (upd H p (.lst (xs.set j v)))
theorem RD (lo hi:Option Int) (n:Nat):(bS lo hi none n).1=((HT.aK n 0 lo:Nat):Int)/\(bS lo hi none n).2.1=((HT.aK n n hi:Nat):Int)/\(bS lo hi none n).2.2=1:=by
 refine ⟨?_,?_,rfl⟩
 ·cases lo with
  | none=>simp [bS,HT.aK]
  | some i =>
   simp only [bS,HT.aK,Option.getD_none,show (1:Int)>0 by decide,if_true];by_cases h:i<0
   ·simp only [h,if_true]<;>omega
   ·simp only [h,if_false]<;>omega
 ·cases hi with
  | none=>simp [bS,HT.aK]
  | some i =>
   simp only [bS,HT.aK,Option.getD_none,show (1:Int)>0 by decide,if_true];by_cases h:i<0
   ·simp only [h,if_true]<;>omega
   ·simp only [h,if_false]<;>omega
theorem QH (its:List Α) (lo hi:Option Int):slicePick its.toArray lo hi none=((its.drop (HT.aK its.length 0 lo)).take (HT.aK its.length its.length hi - HT.aK its.length 0 lo)).toArray:=by
 obtain ⟨h1,h2,h3⟩:=RD lo hi its.toArray.size;unfold slicePick;rw [h1,h2,h3];simp only [sliceRange_one,pick_run,ν]<;>rfl
inductive RG (K:Κ) (H:Hp) (a:Addr) (Q:List V->Prop):Prop
 | mk (xs:List V) (h:ao K H a xs) (q:Q xs)
def rY (K:Κ):V->Option Int->Option Int->Hp->VK->Prop:=fun x lo hi H Q=>kR x fun a=>RG K H a fun xs=>∀ p,H p=none->Q (.ref p) (upd H p (.lst (Xr xs lo hi)))
theorem WC:oG X (rY X.K):=by
 intro pins s σ H x v vl vu lo hi sl Q I rx hs pl pu h;obtain ⟨a,rfl,xs,hx,q⟩:=W0.mp h
 cases rx
 obtain ⟨its,r,ht,hz⟩:=I.list hx;have hlen:=r.length;refine ⟨"list",_,slot_list_getitem.lookup,ht.isList.typeIs,?_⟩;refine wpAny_getItem_list_slice ht.isList hs pl pu .none (by simp) ?_ (by rw [ν]<;>omega);rw [QH,<- hlen];refine ⟨.ref s.heap.objs.size,_,I.laid (t':=s.toks) (o := .lst (Xr xs lo hi)) (fun b ob q=>Η _ q) (Μ _) ?_,rfl,q _ (I.hok.fresh (Μ _))⟩;exact ⟨ah (V8 xs lo hi) hz,_,0,(r.drop (HT.aK xs.length 0 lo)).take (HT.aK xs.length xs.length hi - HT.aK xs.length 0 lo),Ω _ rfl⟩
def WP:V->Bool
 | .non=>true
 | .bl _=>true
 | .int _=>true
 | .str _=>true
 | _=>false
def iJ:V->V->Bool
 | .non,.non=>true
 | .bl a,.bl b=>a==b
 | .bl a,.int b=>(if a then 1 else 0)==b
 | .int a,.bl b=>a==(if b then 1 else 0)
 | .int a,.int b=>a==b
 | .str a,.str b=>a==b
 | _,_=>false
theorem RJ {A:τ} {s:Δ} {y x:V} {u v:Α} (ry:YA y u) (rx:YA x v) (fy:WP y=true) (fx:WP x=true):SeqAt.EqAt A s u v (iJ y x):=by
 cases y with
 | non =>
  cases ry
  cases x with
  | non=>cases rx;exact SeqAt.EqAt.same _
  | bl b=>cases rx;exact SeqAt.EqAt.none_bool b
  | int b=>obtain ⟨t,rfl⟩:=rx;exact SeqAt.EqAt.none_int b t
  | str b=>obtain ⟨t,rfl⟩:=rx;exact SeqAt.EqAt.none_str b t
  | _=>exact absurd (show false=true from fx) ζ
 | bl a =>
  cases ry
  cases x with
  | non=>cases rx;exact SeqAt.EqAt.bool_none a
  | bl b=>cases rx;exact SeqAt.EqAt.bool_bool a b
  | int b=>obtain ⟨t,rfl⟩:=rx;exact SeqAt.EqAt.bool_int a b t
  | str b=>obtain ⟨t,rfl⟩:=rx;exact SeqAt.EqAt.bool_str a b t
  | _=>exact absurd (show false=true from fx) ζ
 | int a =>
  obtain ⟨t',rfl⟩:=ry
  cases x with
  | non=>cases rx;exact SeqAt.EqAt.int_none a t'
  | bl b=>cases rx;exact SeqAt.EqAt.int_bool a t' b
  | int b=>obtain ⟨t,rfl⟩:=rx;exact SeqAt.EqAt.int_int a t' b t
  | str b=>obtain ⟨t,rfl⟩:=rx;exact SeqAt.EqAt.int_str a t' b t
  | _=>exact absurd (show false=true from fx) ζ
 | str a =>
  obtain ⟨t',rfl⟩:=ry
  cases x with
  | non=>cases rx;exact SeqAt.EqAt.str_none a t'
  | bl b=>cases rx;exact SeqAt.EqAt.str_bool a t' b
  | int b=>obtain ⟨t,rfl⟩:=rx;exact SeqAt.EqAt.str_int a t' b t
  | str b=>obtain ⟨t,rfl⟩:=rx;exact SeqAt.EqAt.str_str a t' b t
  | _=>exact absurd (show false=true from fx) ζ
 | _=>exact absurd (show false=true from fy) ζ
def gj (x:V) (u:Α):Bool:=match u with
 | .none=>iJ .non x
 | .bool b=>iJ (.bl b) x
 | .int i _=>iJ (.int i) x
 | .str z _=>iJ (.str z) x
 | _=>false
theorem Gj {x y:V} {u:Α} (r:YA y u) (f:WP y=true):gj x u=iJ y x:=by
 cases y with
 | non=>cases r;rfl
 | bl b=>cases r;rfl
 | int i=>obtain ⟨t,rfl⟩:=r;rfl
 | str z=>obtain ⟨t,rfl⟩:=r;rfl
 | _=>exact absurd (show false=true from f) ζ
theorem UY {x:V}:∀ {xs:List V} {us:List Α},Yw xs us->xs.all WP=true->us.any (gj x)=xs.any fun y=>iJ y x
 | _,_,.nil,_=>rfl
 | y::xs,u::us,.cons r t,f=>by
  rw [List.all_cons,dm] at f
  rw [iS,iS,Gj r f.1,UY t f.2]
theorem Ue {A:τ} {s:Δ} {x:V} {v:Α} (rx:YA x v) (fx:WP x=true):∀ {xs:List V} {us:List Α},Yw xs us->xs.all WP=true->∀ u∈us,SeqAt.EqAt A s u v (gj x u)
 | _,_,.nil,_=>fun u hu=>by cases hu
 | y::xs,u::us,.cons r t,f=>fun u' hu=>by
  rw [List.all_cons,dm] at f
  rcases Υ.mp hu with rfl | hu
  ·rw [Gj r f.1];exact RJ r rx f.1 fx
  ·exact Ue rx fx t f.2 u' hu
def inV (x:V) (xs:List V):Bool:=xs.any fun y=>iJ y x
def wk (K:Κ) (neg:Bool):R2:=fun x y H Q=>∃ p xs,y = .ref p/\(ao K H p xs\/aq K H p xs)/\WP x=true/\xs.all WP=true/\Q (.bl (if neg then !inV x xs else inV x xs)) H
theorem Qr:bH X (bt .In) (wk X.K false):=by
 intro pins s σ H x y v u Q I rx ry h;obtain ⟨p,xs,rfl,hq,fx,fs,q⟩:=h
 cases ry
 rcases hq with hq | hq
 ·obtain ⟨its,r,pl,hz⟩:=I.list hq
  refine SeqAt.in_listAt (gj x) pl.isList (fun w hw=>Ue rx fx r fs w (by simpa using hw)) ⟨.bl _,H,I,rfl,?_⟩;rw [show its.toArray.any (gj x)=its.any (gj x) by simp,UY r fs];exact q
 ·obtain ⟨its,r,pl,hz⟩:=I.tuple hq
  refine SeqAt.in_tupleAt (gj x) pl (fun w hw=>Ue rx fx r fs w (by simpa using hw)) ⟨.bl _,H,I,rfl,?_⟩;rw [show its.toArray.any (gj x)=its.any (gj x) by simp,UY r fs];exact q
inductive M6 (K:Κ) (H:Hp) (p:Addr) (Q:Int->Prop):Prop
 | mk (ys:List V) (h:ao K H p ys\/aq K H p ys) (q:Q ys.length)
def rZ (K:Κ):List V->Hp->VK->Prop:=fun xs H Q=>k1 xs fun x=>kR x fun p=>M6 K H p fun n=>Q (.int n) H
theorem YB:Xv X (.builtin "len") (rZ X.K):=by
 intro pins s σ H xs us Q I r h;obtain ⟨x,rfl,h1⟩:=vI h;obtain ⟨p,rfl,ys,hq,q⟩:=W0.mp h1;obtain ⟨u,rfl,rx⟩:=X8 r
 cases rx
 have hn:=Vy;rcases hq with hq | hq
 ·obtain ⟨its,r',pl,hz⟩:=I.list hq
  have hlen:=r'.length;exact Calls.call_len_list pl.isList (by simp only [ν]<;>omega) ⟨.int ys.length,H,I.tok _,⟨s.toks+1,by rw [ν,hlen]⟩,q⟩
 ·obtain ⟨its,r',pl,hz⟩:=I.tuple hq
  have hlen:=r'.length;exact len_tuple pl (by simp only [ν]<;>omega) ⟨.int ys.length,H,I.tok _,⟨s.toks+1,by rw [ν,hlen]⟩,q⟩
theorem WI:Xv X (.builtin "len") (fun xs H Q=>∃ z,xs=[.str z]/\z.length<=sizeLine/\Q (.int z.length) H):=by
 intro pins s σ H xs us Q I r h;obtain ⟨z,rfl,hz,q⟩:=h;obtain ⟨u,rfl,t,rfl⟩:=X8 r;have hn:=Vy;exact len_str (by omega) ⟨.int z.length,H,I.tok _,⟨_,rfl⟩,q⟩
theorem VB:Xv X (.type "list") (fun xs H Q=>∃ p ys,xs=[.ref p]/\(ao X.K H p ys\/aq X.K H p ys)/\∀ l,H l=none->Q (.ref l) (upd H l (.lst ys))):=by
 intro pins s σ H xs us Q I r h;obtain ⟨p,ys,rfl,hq,q⟩:=h;obtain ⟨u,rfl,rx⟩:=X8 r
 cases rx
 have fin:∀ (its:List Α),Yw ys its->ys.length<=sizeLine->∀ (h':Heap) (c':Nat),(∀ b o',s.heap.get? b=some o'->h'.get? b=some o') ->
   h'.get? s.heap.objs.size=some { cls := .type "list",dict:=none,data := .seq its.toArray c',slots:=#[] }->EP X pins σ Q (.ref s.heap.objs.size) { s with heap:=h' }:=fun its r' hz h' c' kp e =>
  ⟨.ref s.heap.objs.size,_,I.laid (t':=s.toks) kp (Μ _) (show YN X.prog X.w _ h' _ (.lst ys) from ⟨hz,its,c',r',e⟩),rfl,q _ (I.hok.fresh (Μ _))⟩
 rcases hq with hq | hq
 ·obtain ⟨its,r',pl,hz⟩:=I.list hq
  have hlen:=r'.length;obtain ⟨o,ho,hc,n,hd⟩:=pl.isList;exact call_list_seq p (.inl rfl) ho hc hd (fun h' c' kp e=>fin its r' hz h' c' kp e) (by simp only [ν]<;>omega)
 ·obtain ⟨its,r',pl,hz⟩:=I.tuple hq
  have hlen:=r'.length;obtain ⟨o,ho,hc,n,hd⟩:=pl;exact call_list_seq p (.inr rfl) ho hc hd (fun h' c' kp e=>fin its r' hz h' c' kp e) (by simp only [ν]<;>omega)
theorem Xn:Xv X (.type "tuple") (fun xs H Q=>∃ p ys,xs=[.ref p]/\((ao X.K H p ys/\∀ l,H l=none->Q (.ref l) (upd H l (.tup ys)))\/(aq X.K H p ys/\Q (.ref p) H))):=by
 intro pins s σ H xs us Q I r h;obtain ⟨p,ys,rfl,h⟩:=h;obtain ⟨u,rfl,rx⟩:=X8 r
 cases rx
 rcases h with ⟨hq,q⟩ | ⟨hq,q⟩
 ·obtain ⟨its,r',pl,hz⟩:=I.list hq
  have hlen:=r'.length;refine call_tuple_list pl.isList (fun h' kp=>?_) (by simp only [ν]<;>omega);have I1:Inv X pins σ H { s with heap:=h' }:=I.kept (t':=s.toks) kp;have I2:Inv X pins σ (upd H h'.objs.size (.tup ys)) { s with heap:=h'.push { cls := .type "tuple",data := .seq its.toArray } } :=
   I1.laid (t':=s.toks) (fun b o e=>Η _ e) (Μ _) (show YN X.prog X.w _ _ _ (.tup ys) from ⟨hz,its,r',IsTup.new _ _⟩)
  exact ⟨.ref h'.objs.size,_,I2,rfl,q _ (I1.hok.fresh (Μ _))⟩
 ·obtain ⟨its,r',pl,hz⟩:=I.tuple hq
  exact call_tuple_same pl ⟨.ref p,H,I,rfl,q⟩
def wu (K:Κ) (T:String) (x:V) (H:Hp):Prop:=match x with
 | .str _=>T="str"
 | .int _=>T="int"
 | .ref p=>(T="list"/\∃ xs,ao K H p xs)\/(T="tuple"/\∃ o,K.lookup p=some o/\o.cls = .type "tuple"/\o.dict=none) \/
   (T="dict"/\((∃ kvs,H p=some (.dK kvs))\/∃ kvs,H p=some (.dT kvs)))\/(T="set"/\∃ S n,H p=some (.set S n))
 | _=>False
theorem Gk {pins:List (Addr×Obj)} {σ:St} {H:Hp} {s:Δ} {T:String} {x:V} {v:Α} (I:Inv X pins σ H s) (r:YA x v) (ty:wu X.K T x H) :
  s.TypeIs v T/\∀ a,v = .ref a->∃ ob,s.heap.get? a=some ob/\ob.dict=none:=by
 cases x with
 | str z =>
  obtain ⟨t,rfl⟩:=r
  cases (show T="str" from ty)
  exact ⟨typeIs_str s z t,fun _ e=>nomatch e⟩
 | int i =>
  obtain ⟨t,rfl⟩:=r
  cases (show T="int" from ty)
  exact ⟨typeIs_int s i t,fun _ e=>nomatch e⟩
 | ref p =>
  cases r
  rcases ty with ⟨rfl,xs,hq⟩ | ⟨rfl,o,hk,hc,hd⟩ | ⟨rfl,hk⟩ | ⟨rfl,S,n,hk⟩
  ·obtain ⟨its,_,pl,_⟩:=I.list hq
   refine ⟨pl.isList.typeIs,fun a e=>?_⟩
   cases e
   obtain ⟨o,n,e,c,hd,_⟩:=pl;exact ⟨o,e,hd⟩
  ·refine ⟨⟨o,I.bJ p o hk,hc⟩,fun a e=>?_⟩
   cases e
   exact ⟨o,I.bJ _ o hk,hd⟩
  ·have z:∃ o,s.heap.get? p=some o/\o.ExactDict:=by
    rcases hk with ⟨kvs,hk⟩ | ⟨kvs,hk⟩
    ·obtain ⟨_,_,_,_,o,_,_,e,ex,_⟩:=I.hok p _ hk
     exact ⟨o,e,ex⟩
    ·obtain ⟨_,_,_,_,o,_,_,e,ex,_⟩:=I.hok p _ hk
     exact ⟨o,e,ex⟩
   obtain ⟨o,e,ex⟩:=z;refine ⟨⟨o,e,ex.1⟩,fun a e2=>?_⟩
   cases e2
   exact ⟨o,e,ex.2.1⟩
  ·obtain ⟨o,_,_,_,e,ex,_⟩:=I.hok p _ hk
   refine ⟨⟨o,e,ex.1⟩,fun a e2=>?_⟩
   cases e2
   exact ⟨o,e,ex.2.1⟩
 | _=>exact bi ty
def qP (K:Κ) (T:String) (r:V->List V->Hp->VK->Prop) (to:TE):TE:=fun σ H Q=>to σ H fun x H1=>wu K T x H1/\r x [] H1 Q
def oJ (K:Κ) (T:String) (r:V->List V->Hp->VK->Prop) (to:TE) (t:TA):TE:=fun σ H Q=>to σ H fun x H1=>wu K T x H1/\t σ H1 fun xs H2=>r x xs H2 Q
variable {o e:Expr} {es:List Expr} {to:TE} {t:TA} {name:Str} {apos cpos:Pos} {T id:String} {r:V->List V->Hp->VK->Prop}
theorem RL (pa:PlainAttrs T) (slot:Slot T name id) (hty:typeOf (.builtin id)=pure (.type "method_descriptor")) (hm:jB X id r) (ho:PE X o to)
  (hbase:er o name X.env (eval o X.env)=eval o X.env) (hline:(apos.endLine==cpos.line)=true):PE X (.Call (.Attribute o name apos) [] [] cpos) (qP X.K T r to):=by
 intro pins s σ H Q I h;refine wpAny_Call_method0_late hbase hline (aG (ho pins s σ H _ I h) fun v s1 ⟨x,H1,I1,r1,ty,q1⟩=>?_);obtain ⟨h1,h2⟩:=Gk I1 r1 ty;exact ⟨T,id,pa,slot,hty,h1,h2,Calls.callWith_builtin rfl (PySem.evalArgs_none (hm pins s1 σ H1 x [] v [] Q I1 r1 .nil q1))⟩
theorem Xw (pa:PlainAttrs T) (slot:Slot T name id) (hty:typeOf (.builtin id)=pure (.type "method_descriptor")) (hm:jB X id r) (ho:PE X o to) (ha:PA X (e::es) t)
  (hbase:er o name X.env (eval o X.env)=eval o X.env:=by rfl)
  (hfew:((bv cpos (Φ (e::es) X.env)).all (fun x => !x.1)&&(ir cpos (e9 [] X.env)).all (fun x=>x.1.isSome)
   && decide ((e::es).length+([]:List iq).length+(if ([]:List iq).isEmpty then 0 else 1)<30))=true:=by rfl)
  (hline:(apos.endLine==cpos.line)=true:=by rfl) (hs:Φ (e::es) X.env=(false,eval e X.env)::Φ es X.env:=by rfl) (hplain:(bv cpos (Φ es X.env)).any (·.1)=false:=by rfl) :
  PE X (.Call (.Attribute o name apos) (e::es) [] cpos) (oJ X.K T r to t):=by
 intro pins s σ H Q I h;refine wpAny_Call_method_late hbase hfew hline rfl (aG (ho pins s σ H _ I h) fun v s1 ⟨x,H1,I1,r1,ty,q1⟩=>?_);obtain ⟨h1,h2⟩:=Gk I1 r1 ty;refine ⟨T,id,pa,slot,hty,h1,h2,?_⟩;have hA:=ha cpos pins s1 σ H1 _ I1 q1;rw [hs] at hA ⊢
 refine Calls.callWith_builtin (by show (false||(bv cpos (Φ es X.env)).any (·.1))=false;rw [hplain]<;>rfl) (Calls.evalArgs_plain ?_);exact aG hA fun us s2 ⟨vs,H2,I2,r2,q2⟩=>hm pins s2 σ H2 x vs v us Q I2 r1 r2 q2
/- xs.append(e),list.index on a module's tuple .. are jB facts of 06m -/
end
def Gm (X:Cx) (id:String) (r:V->List V->Hp->VK->Prop):Prop :=
 ∀ (pins:List (Addr×Obj)) (s:Δ) (σ:St) (H:Hp) (x:V) (xs:List V) (v:Α) (us:List Α) (Q:VK),Inv X pins σ H s->YA x v->Yw xs us->r x xs H Q ->
  Ξ (γ X.prog X.w) X.A (call (.builtin id) (v::us)) (EP X pins σ Q) X.xe s
theorem Yw.one:∀ {x:V} {us:List Α},Yw [x] us->∃ u,us=[u]/\YA x u
 | _,_,.cons r .nil=>⟨_,rfl,r⟩
theorem Yw.two:∀ {x y:V} {us:List Α},Yw [x,y] us->∃ u v,us=[u,v]/\YA x u/\YA y v
 | _,_,_,.cons r (.cons q .nil)=>⟨_,_,rfl,r,q⟩
theorem Yw.zero:∀ {us:List Α},Yw [] us->us=[]
 | _,.nil=>rfl
theorem Yw.reverse {xs:List V} {us:List Α} (h:Yw xs us):Yw xs.reverse us.reverse:=by
 induction h with
 | nil=>exact .nil
 | cons r t ih=>rw [List.reverse_cons,List.reverse_cons];exact Yw.append ih (.cons r .nil)
section
variable {X:Cx} {pins:List (Addr×Obj)} {σ:St} {H:Hp} {s:Δ} {l b:Addr} {xs ys zs:List V}
theorem Inv.wz {its its':List Α} {n:Nat} {f:Array Α->Array Α} {t':Nat} (I:Inv X pins σ H s) (hH:H l=some (.lst xs))
  (e:s.heap.get? l=some { cls := .type "list",data := .seq its.toArray n }) (hf:f its.toArray=its'.toArray) (hv:Yw ys its') (hz:ys.length<=sizeLine) :
  Inv X pins σ (upd H l (.lst ys)) { s with heap:=s.heap.update l (eR f),toks:=t' }:=by
 have q:=PySem.IsL.update e f;rw [hf] at q
 refine I.write (x:=l) (e:=l) (by rw [hH];exact trivial) (.inl rfl) (fun b' u hb hu=>(du s.heap (eR f) (ω hb)).trans hu) ⟨_,q⟩ ?_;exact ⟨hz,its',_,hv,q⟩
theorem Inv.wA {its:List Α} {t':Nat} (I:Inv X pins σ H s) (hv:Yw ys its) (hz:ys.length<=sizeLine) :
  Inv X pins σ (upd H s.heap.objs.size (.lst ys)) { s with heap:=s.heap.push { cls := .type "list",data := .seq its.toArray },toks:=t' } :=
 I.laid (fun _ _ q=>Η _ q) (Μ _) ⟨hz,its,0,hv,Ω _ rfl⟩
theorem Inv.fresh (I:Inv X pins σ H s):H s.heap.objs.size=none:=I.hok.fresh (Μ _)
theorem Inv.jC (I:Inv X pins σ H s) (hH:H l=some (.lst xs)):xs.length<=sizeLine/\∃ (its:List Α) (n:Nat),Yw xs its/\xs.length=its.length/\s.heap.get? l=some { cls := .type "list",data := .seq its.toArray n }:=by
 obtain ⟨z,its,n,r,e⟩:=I.hok l _ hH;exact ⟨z,its,n,r,r.length,e⟩
theorem RM {n:Nat} (h:n<=sizeLine):Builtin.List.listTooLong n=false:=by
 unfold Builtin.List.listTooLong;exact decide_eq_false (by omega)
end
section
variable {X:Cx}
inductive M7 (H:Hp) (l:Addr) (Q:List V->Prop):Prop
 | mk (xs:List V) (h:H l=some (.lst xs)) (hz:xs.length<sizeLine) (q:Q xs)
def UZ:V->List V->Hp->VK->Prop:=fun x vs H Q=>kR x fun l=>k1 vs fun y=>M7 H l fun xs=>Q .non (upd H l (.lst (xs++[y])))
theorem Y6:Gm X "list.append" UZ:=by
 intro pins s σ H x vs v us Q I rx rv h;obtain ⟨l,rfl,h1⟩:=W0.mp h;obtain ⟨y,rfl,xs,hH,hz,q⟩:=vI h1
 cases rx
 obtain ⟨u,rfl,ru⟩:=rv.one;obtain ⟨z,its,n,r,hl,e⟩:=I.jC hH;refine call_meets bc ⟨_,e,rfl⟩ F.entry_list_append (F.args_list_append_2 _ _) (PySem.list_append l its.toArray n u (by rw [ν];omega)) ⟨e,?_⟩;refine ⟨.non,_,I.wz (its':=its++[u]) hH e (by simp) (r.append (.cons ru .nil)) ?_,rfl,q⟩;rw [Ζ,δ];omega
def Gn:V->List V->Hp->VK->Prop:=fun x vs H Q=>∃ l b xs zs,x = .ref l/\vs=[.ref b]/\H l=some (.lst xs)/\H b=some (.lst zs)/\xs.length+zs.length<=sizeLine/\Q .non (upd H l (.lst (xs++zs)))
theorem VC:Gm X "list.extend" Gn:=by
 intro pins s σ H x vs v us Q I rx rv h;obtain ⟨l,b,xs,zs,rfl,rfl,hH,hB,hz,q⟩:=h
 cases rx
 obtain ⟨u,rfl,ru⟩:=rv.one
 cases ru
 obtain ⟨z,its,n,r,hl,e⟩:=I.jC hH;obtain ⟨z2,its2,n2,r2,hl2,e2⟩:=I.jC hB;have hsz:its.toArray.size+its2.toArray.size<=sizeLine:=by rw [ν,ν];omega
 have Ea:¬ (!its.toArray.isEmpty&&Builtin.List.listTooLong (its.toArray.size+its2.toArray.size))=true:=by
  rw [RM hsz,Bool.and_false];exact ζ
 refine call_meets F.slot_list_extend ⟨_,e,rfl⟩ F.entry_list_extend (F.args_list_extend_2 _ _)
  (AutoSeq1.list_extend_list_list_0 l its.toArray n b its2.toArray n2 Ea (by rw [ν];omega) (by omega)) ⟨e,e2,?_⟩
 refine ⟨.non,_,I.wz (its':=its++its2) hH e (by simp) (r.append r2) ?_,rfl,q⟩;rw [Ζ];omega
def Gp:V->List V->Hp->VK->Prop:=fun x vs H Q=>∃ l xs,x = .ref l/\vs=[]/\H l=some (.lst xs)/\Q .non (upd H l (.lst xs.reverse))
inductive M8 (H:Hp) (l b:Addr) (Q:List V->List V->Prop):Prop
 | mk (xs:List V) (h:H l=some (.lst xs)) (zs:List V) (h':H b=some (.lst zs)) (hz:xs.length+zs.length<=sizeLine) (q:Q xs zs)
def qQ:R2:=fun x y H Q=>kR x fun l=>kR y fun b=>M8 H l b fun xs zs=>∀ p,H p=none->Q (.ref p) (upd H p (.lst (xs++zs)))
theorem XG:bH X (fq .Add) qQ:=by
 intro pins s σ H x y v u Q I rx ry h;obtain ⟨l,rfl,h1⟩:=W0.mp h;obtain ⟨b,rfl,xs,hH,zs,hB,hz,q⟩:=W0.mp h1
 cases rx
 cases ry
 obtain ⟨z,its,n,r,hl,e⟩:=I.jC hH;obtain ⟨z2,its2,n2,r2,hl2,e2⟩:=I.jC hB;refine PySem.P.add_list e e2 ?_ (by rw [ν,ν];omega);have ea:its.toArray++its2.toArray=(its++its2).toArray:=by simp
 rw [ea];exact ⟨.ref _,_,I.wA (t':=s.toks) (r.append r2) (by rw [Ζ];omega),rfl,q _ I.fresh⟩
end
end L2
namespace Gq
open PySem PySem.W PySem.Calls PyProof.Rows
theorem Ux {P:Params} {h:Heap}:∀ (ns:List Int) (vs:List Α),WellAll P h vs (ns.map WData.int)->IntsAre vs ns:=by
 intro ns
 induction ns with
 | nil =>
  intro vs w;rw [c6] at w
  cases w
  exact .nil
 | cons n ns ih =>
  intro vs w;rw [af] at w
  cases w with
  | cons a b =>
   cases a
   exact .cons _ _ (ih _ b)
theorem RN {l:OpenLaw} {n:Nat} (hn:l.most=some n) {P:Params} {h:Heap} {args:List WData} {vals:List Α}
  (hpre:l.row.toRowW.claim.pre args=true) (hwl:WellAll P h vals args) :
  ∃ a vs ns,vals=[ac a]/\args=[WData.list (ns.map WData.int)]/\h.get? a=some { cls := .type "list",data := .seq vs.toArray }/\IntsAre vs ns/\ns.length<=n:=by
 have hsh:WShape.hasAll [] args [.list .int]=true:=(pre_splitW hpre).1;have hc:l.pre.holds [] { args:=args }=true:=(pre_splitW hpre).2;obtain ⟨d,r,rfl,h1,h2⟩:=hasAllW_cons hsh;obtain rfl:=hasAllW_nil h2;obtain ⟨xs,rfl,h3⟩:=hasW_list h1;obtain ⟨ns,rfl⟩:=items_int h3;have hlen:ns.length<=n:=by
  unfold OpenLaw.pre at hc;have h4:(WTm.not (.lt (.lit (.int (n:Int))) (.len (.arg 0)))).holds [] { args:=[.list (ns.map .int)] }=true:=by
   have h4:=(holds_andW hc).1;rw [hn] at h4
   exact h4
  have h5:=condW_of h4 (w_not (w_lt w_lit (w_len_list (w_arg rfl))));rw [Ε] at h5
  refine Nat.le_of_not_lt fun q=>?_
  have q':(n:Int)<((ns.length:Nat):Int):=by omega
  first
   | (rw [decide_eq_true q'] at h5;exact absurd h5 (by decide))
   | (simp at h5;omega)
 cases hwl with
 | cons w1 w2 =>
  cases w2
  cases w1 with
  | list ho hall=>exact ⟨_,_,ns,rfl,rfl,ho,Ux ns _ hall,hlen⟩
theorem RP (l:OpenLaw) (args:List WData):l.row.toRowW.claim.post args (.bool true) args=true :=
 postW_of (r:=l.row.toRowW) (X:=(true==true))
  (show WShape.has [] (.bool true) .bool=true by first | rfl | decide | simp [WShape.has,WShape.arms,WShape.armsAll])
  (show (WTm.eq .res (.lit (.bool true))).value [] { args:=args,res:=some (.bool true),after:=args }=some (.bool (true==true)) from w_eq_bool (w_res rfl) w_lit) rfl
theorem lE {l:OpenLaw} {n:Nat} {q:Ο} {loose:List Str} {XP:(Str->Option Α)->Heap->Prop} {YP:ε->Heap->Prop} {d:DefRec}
  (hn:l.most=some n) (hdf:d.params.defaults=[])
  (call:∀ (w:ε) (s₀ s₁:Δ) (mg mb:Str->Option Α) (fa:Addr) (o:Obj) (pm cd doc:Α) (a:Addr) (vs:List Α) (ns:List Int),
   Ground q loose [] XP w s₀ mg mb s₁.heap->YP w s₁.heap ->
   s₁.heap.get? fa=some o->o.data = .func (docDef d.name d.params d.body d.scope pm cd doc)->s₁.heap.CodeRec cd d.name->mg d.name=some (.ref fa) ->
   s₁.heap.get? a=some { cls := .type "list",data := .seq vs.toArray }->IntsAre vs ns->ns.length<=n->s₁.gens=#[] ->
   f6 (γ l.prog w) callerA (.call (.ref fa) ⟨[.ref a],[]⟩) (fun r s'=>r = .ok (.ret (.bool true))/\OldK s₁.heap s'.heap/\s'.os=s₁.os/\f7 s'.gens) s₁) :
  WalkO q loose XP YP l.row.toRowW d [] (fun f vs=>PySem.call f vs):=by
 intro w s₀ s₁ mg mb G Y fa o pm cd doc dV kV ho hd hcd hD hmg hg args vals as hpre hlay hrd hwl hlo;obtain rfl:dV = .none:=Dflts.none hD hdf;obtain rfl:kV = .none:=Dflts.noKw hD;obtain ⟨a,vs,ns,rfl,rfl,hobj,hints,hlen⟩:=RN hn hpre hwl;refine enter_call (fA (call w s₀ s₁ mg mb fa o pm cd doc a vs ns G Y ho (fd_plain hd) hcd hmg hobj hints hlen hg) fun r s' hq=>?_);obtain ⟨rfl,h2,h3,h4⟩:=hq;exact ⟨.inl ⟨.bool true,.bool true,[],rfl,fun _=>rfl,.bool true,RP l _,fun _=>⟨List.Pairwise.nil,fun _ hm=>(nomatch hm)⟩⟩,h2,h3,h4⟩
section
variable {prog:Ο} {w:ε} {A:τ} {E:Α->Δ->Prop} {s:Δ} {K:Frag}
def ledger (h:Heap) (L d:Addr):List (Addr×Obj):=(ai h.objs.size).filterMap fun a=>if a=L\/a=d then none else (h.get? a).map fun o=>(a,o)
end
end Gq
namespace L2
open PySem PySem.Spec PyProof.Rows
theorem Qs:∀ {vs:List Α} {ns:List Int},IntsAre vs ns->Yw (ns.map V.int) vs
 | _,_,.nil => .nil
 | _,_,.cons n t h => .cons ⟨t,rfl⟩ (Qs h)
def Xg (s:Stmt) (j:Nat):Stmt:=match s with
 | .ClassDef _ _ _ body _ _ _ _ _ _ _=>body.getD j (.Pass ⟨0,0,0,0⟩)
 | _ => .Pass ⟨0,0,0,0⟩
def Y4 (s:Stmt):Arguments:=match s with
 | .FunctionDef _ a _ _ _ _ _ _ _ _=>a
 | _=>{ posonlyargs:=[],args:=[],vararg:=none,kwonlyargs:=[],kw_defaults:=[],kwarg:=none,defaults:=[] }
def YS (s:Stmt):List Stmt:=match s with
 | .FunctionDef _ _ b _ _ _ _ _ _ _=>b
 | _=>[]
def Yi (s:Stmt):Scope:=match s with
 | .FunctionDef _ _ _ _ _ _ sc _ _ _=>sc
 | _=>{ kind := .function,names:=[],isGenerator:=false,isCoroutine:=false }
abbrev bV:dh:=fun _ _ _ _ _ _=>False
abbrev E0:XK:=fun _ _ _=>False
theorem VT {X:Cx}:Wa bV X E0:=fun _ _ _ _ _ _ _ h=>h.elim
structure dU (K:Κ) (x qual:Str) (st:Stmt) (f:Addr) (fd:bg):Prop where
 ex:∃ (oc:Α) (od:Option Addr) (kV doc pm:Α) (an:Option Addr) (cdv ct:Α) (osl:Array (Option Α)),
  fd=c5 x qual (Y4 st) (YS st) (Yi st) .none kV doc pm an cdv ct/\K.lookup f=some ⟨oc,od,.func fd,osl⟩/\gf K cdv qual=true
 kp:ef K (.ref f)=true
section
variable {P:Ο} {w:ε} {K:Κ} {mg:Str->Option Α} {base:Heap}
theorem dU.ok {x qual:Str} {st:Stmt} {f:Addr} {fd:bg} {N ps:List Str} {k:Nat} {sp:Sp} (F:dU K x qual st f fd) (S:ak N ps (Yi st)) (len:∀ vs H Q E,sp vs H Q E->vs.length=ps.length)
  (hbody:∀ (cdv:Α) (A:τ) (outer:List Env) (s:Δ) (H:Hp) (vs:List V) (Q:VK) (E:XK),aM k (A.deeper (ia qual (Yi st) s.heap.objs.size f cdv))->sp vs H Q E ->
   ∃ t,cW (Wu bV P w K mg base N qual (Yi st) f cdv A outer s H E).dI (YS st) t/\t { nx:=fun _ H'=>Q .non H',rt:=Q } (Xz N vs) H):aY P w K mg base bV (k+1) f fd ps sp:=by
 obtain ⟨oc,od,kV,doc,pm,an,cdv,ct,osl,rfl,lk,hcd⟩:=F.ex;refine Gg lk hcd S len fun A outer s H vs Q E hr hsp=>?_
 obtain ⟨t,h,q⟩:=hbody cdv A outer s H vs Q E hr hsp;exact ⟨t,h.dI,q⟩
theorem dU.binds {x qual:Str} {st:Stmt} {f:Addr} {fd:bg} {ps:List Str} (F:dU K x qual st f fd)
  (h:∀ (kV doc pm:Α) (an:Option Addr) (cdv ct:Α) (us:List Α),us.length=ps.length->fo (c5 x qual (Y4 st) (YS st) (Yi st) .none kV doc pm an cdv ct) ⟨us,[]⟩=pure (ps.zip us)):Xq K fd ps []:=by
 obtain ⟨oc,od,kV,doc,pm,an,cdv,ct,osl,rfl,lk,hcd⟩:=F.ex;exact .all (h kV doc pm an cdv ct)
theorem Vd {x qual:Str} {st:Stmt} {f:Addr} {oc:Α} {od an:Option Addr} {osl:Array (Option Α)} {kV doc pm cdv ct:Α} (l:K.lookup f=some ⟨oc,od,.func (c5 x qual (Y4 st) (YS st) (Yi st) .none kV doc pm an cdv ct),osl⟩)
  (c:gf K cdv qual=true) (k:ef K (.ref f)=true):dU K x qual st f (c5 x qual (Y4 st) (YS st) (Yi st) .none kV doc pm an cdv ct):=⟨⟨oc,od,kV,doc,pm,an,cdv,ct,osl,rfl,l,c⟩,k⟩
end
theorem Gs {A:τ} {k:Nat} (hr:aM k A):A.units+1<cLine:=Nat.lt_of_le_of_lt (Nat.add_le_add_left (by decide:1<=64) _) hr.units
section
variable {X:Cx}
theorem pv (i:Nat) {x:Str} {pos:Pos} (hN:X.N[i]?=some x:=by rfl) (hv:ou X.env.scope x:=by first | exact .inl rfl | exact .inr (.inl rfl) | exact .inr (.inr rfl)) (hd:(x==("__debug__":Str))=false:=by decide)
  (hcd:(x==("__classdict__":Str))=false:=by decide):PE X (.Name x pos) (W3 i):=Q9 hN hv hd hcd
end
theorem YQ {A B:Prop} (h:B):if false=true then A else B:=by
 rw [if_neg ζ];exact h
theorem XY {A B:Prop} (h:A):if true=true then A else B:=by
 rw [if_pos rfl];exact h
theorem U0 {c A B:Prop} [Decidable c] (h1:c->A) (h2:¬ c->B):if c then A else B:=by
 by_cases h:c
 ·rw [if_pos h]
  exact h1 h
 ·rw [if_neg h]
  exact h2 h
def Ye (H H':Hp):Prop:=∀ b o,H b=some o->H' b=some o
theorem Ye.refl (H:Hp):Ye H H:=fun _ _ h=>h
theorem Ye.trans {H H1 H2:Hp} (a:Ye H H1) (b:Ye H1 H2):Ye H H2:=fun c o h=>b c o (a c o h)
theorem Ye.free {H H':Hp} (e:Ye H H') {l:Addr} (h:H' l=Option.none):H l=Option.none:=by
 cases q:H l with
 | none=>rfl
 | some o =>
  rw [e l o q] at h
  cases h
theorem Ye.seq {K:Κ} {H H':Hp} {a:Addr} {xs:List V} (e:Ye H H') (h:ao K H a xs):ao K H' a xs:=by
 rcases h with (h | ⟨o,h⟩) | h
 ·exact .inl (.inl (e _ _ h))
 ·exact .inl (.inr ⟨o,e _ _ h⟩)
 ·exact .inr h
section
variable {κ:Type} [DecidableEq κ]
def W5 (kvs:List (κ×V)) (k:κ):Option V:=(kvs.find? fun kv=>decide (kv.1=k)).map (·.2)
def W6 (kvs:List (κ×V)) (k:κ) (v:V):List (κ×V) :=
 if (kvs.any fun kv=>decide (kv.1=k))=true then kvs.map (fun kv=>if kv.1=k then (kv.1,v) else kv) else kvs++[(k,v)]
theorem Uf {p:κ×V} {r:List (κ×V)} {k:κ} (e:p.1=k):W5 (p::r) k=some p.2:=by simp [W5,bn,e]
theorem Gu {p:κ×V} {r:List (κ×V)} {k:κ} (e:¬ p.1=k):W5 (p::r) k=W5 r k:=by simp [W5,bn,e]
theorem RQ (kvs:List (κ×V)) (k:κ) (v:V):(W6 kvs k v).length<=kvs.length+1:=by
 unfold W6
 split
 ·rw [Ε];omega
 ·rw [Ζ,am,ik];omega
theorem KV.val {kvs:List (κ×V)} {vs:List (κ×Α)} (r:KV kvs vs) (k:κ):X3 (W5 kvs k) (valueAt vs k):=by
 unfold KV at r
 induction r with
 | nil=>exact da
 | @cons p q ps qs h t ih =>
  obtain ⟨h1,h2⟩:=h;by_cases e:p.1=k
  ·have e':q.1=k:=h1.symm.trans e
   have b:valueAt (q::qs) k=some q.2:=by simp [valueAt,bn,e']
   rw [Uf e,b];exact h2
  ·have e':¬ q.1=k:=fun z=>e (h1.trans z)
   have b:valueAt (q::qs) k=valueAt qs k:=by simp [valueAt,bn,e']
   rw [Gu e,b];exact ih
theorem KV.any {kvs:List (κ×V)} {vs:List (κ×Α)} (r:KV kvs vs) (k:κ):(kvs.any fun kv=>decide (kv.1=k))=vs.any fun kv=>decide (kv.1=k):=by
 unfold KV at r
 induction r with
 | nil=>rfl
 | cons h t ih=>rw [iS,iS,ih,h.1]
theorem KV.repl {kvs:List (κ×V)} {vs:List (κ×Α)} (r:KV kvs vs) (k:κ) {y:V} {u:Α} (ry:YA y u) :
  KV (kvs.map fun kv=>if kv.1=k then (kv.1,y) else kv) (vs.map fun kv=>if kv.1=k then (kv.1,u) else kv):=by
 unfold KV at r ⊢
 induction r with
 | nil=>exact .nil
 | @cons p q ps qs h t ih =>
  rw [af,af];refine .cons ?_ ih;obtain ⟨h1,h2⟩:=h;by_cases e:p.1=k
  ·rw [if_pos e,if_pos (h1.symm.trans e)];exact ⟨h1,ry⟩
  ·rw [if_neg e,if_neg (fun z=>e (h1.trans z))];exact ⟨h1,h2⟩
theorem KV.put {kvs:List (κ×V)} {vs:List (κ×Α)} (r:KV kvs vs) (k:κ) {y:V} {u:Α} (ry:YA y u):KV (W6 kvs k y) (stored vs k u):=by
 unfold W6 stored;rw [r.any k];by_cases e:(vs.any fun kv=>decide (kv.1=k))=true
 ·rw [if_pos e,if_pos e];exact r.repl k ry
 ·rw [if_neg e,if_neg e];exact Paired.snoc r ⟨rfl,ry⟩
end
theorem Uy {P:Ο} {w:ε} {k:Key} {u:Α} (r:YA (kV k) u):(Y3 P w).is k u=true:=by
 cases k with
 | inl i=>obtain ⟨t,e⟩:=(show ∃ t,u=jn i t from r);subst e;exact OD P w i t
 | inr x=>obtain ⟨t,e⟩:=(show ∃ t,u=iE x t from r);subst e;exact OJ P w x t
theorem Qt {P:Ο} {w:ε}:∀ {ks:List Key} {us:List Α},Yw (ks.map kV) us->ItemsAre (Y3 P w) ks us
 | [],_,r=>by rw [c6] at r;cases r;exact .nil
 | k::ks,_,r=>by
  rw [af] at r
  cases r with
  | cons h t=>exact .cons (Uy h) (Qt t)
abbrev KT (H:Hp):List (List Key×V)->List (List Key×Addr×Α)->Prop:=Paired fun p q=>p.1=q.1/\H q.2.1=some (.tup (p.1.map kV))/\YA p.2 q.2.2
theorem KT.val {H:Hp} {kvs:List (List Key×V)} {xs:List (List Key×Addr×Α)} (r:KT H kvs xs) (k:List Key):X3 (W5 kvs k) ((atKey xs k).map (·.2)):=by
 induction r with
 | nil=>exact da
 | @cons p q ps qs h t ih =>
  obtain ⟨h1,_,h2⟩:=h;by_cases e:p.1=k
  ·have e':q.1=k:=h1.symm.trans e
   have b:atKey (q::qs) k=some q.2:=by simp [atKey,bn,e']
   rw [Uf e,b];exact h2
  ·have e':¬ q.1=k:=fun z=>e (h1.trans z)
   have b:atKey (q::qs) k=atKey qs k:=by simp [atKey,bn,e']
   rw [Gu e,b];exact ih
section
variable {P:Ο} {w:ε} {H:Hp} {h:Heap} {a:Addr}
theorem Gv {u:HO} (ok:aX P w H h) (e:Rd H a u):YN P w H h a u:=e.ok ok
theorem wB {kvs:List (Key×V)} (ok:aX P w H h) (e:Rd H a (.dK kvs)):kvs.length<=sizeLine/\(a==dq)=false/\∃ vs,KV kvs vs/\h.DictOf (Y3 P w) a vs :=
 show YN P w H h a (.dK kvs) from Gv ok e
theorem Eb {kvs:List (Key×V)} (ok:aX P w H h) (e:H a=some (.dK kvs)):kvs.length<=sizeLine/\(a==dq)=false/\∃ vs,KV kvs vs/\h.DictOf (Y3 P w) a vs:=wB ok (.inl e)
theorem Gw {ks:List Key} (ok:aX P w H h) (e:H a=some (.tup (ks.map kV))):(tupleKind (Y3 P w)).is h ks a:=by
 obtain ⟨_,its,r,o,h1,h2,n,h3⟩:=(show YN P w H h a (.tup (ks.map kV)) from ok a _ e);exact ⟨o,its.toArray,n,h1,h2,h3,by simpa using Qt r⟩
theorem Gy {kvs:List (List Key×V)} (ok:aX P w H h) (e:Rd H a (.dT kvs)):kvs.length<=sizeLine/\(a==dq)=false /\
  ∃ xs,KT H kvs xs/\h.DictOfH (tupleKind (Y3 P w)) a xs:=by
 obtain ⟨z,y,xs,r,o,es,ep,h1,h2,h3,h4,h5⟩:=(show YN P w H h a (.dT kvs) from Gv ok e);refine ⟨z,y,xs,r,o,es,ep,h1,h2,h3,h4,fun x hx=>?_,h5⟩;have all:∀ {l:List (List Key×V)} {m:List (List Key×Addr×Α)},KT H l m->∀ x∈m,(tupleKind (Y3 P w)).is h x.1 x.2.1:=by
  intro l m q
  induction q with
  | nil=>intro x hx;exact nomatch hx
  | @cons p q ps qs hq t ih =>
   intro x hx;rcases Υ.mp hx with e | hx
   ·subst e
    exact Gw ok (by rw [<- hq.1];exact hq.2.1)
   ·exact ih x hx
 exact all r x hx
end
def Vm (H:Hp) (a:Addr) (y:V) (r:Option V):Prop :=
 (∃ kvs k,Rd H a (.dK kvs)/\y=kV k/\r=W5 kvs k)\/∃ kvs k b,Rd H a (.dT kvs)/\y = .ref b/\H b=some (.tup (k.map kV))/\r=W5 kvs k
def M9 (H:Hp) (a:Addr) (y v:V) (H':Hp):Prop :=
 (∃ kvs k,H a=some (.dK kvs)/\y=kV k/\kvs.length<sizeLine/\H'=upd H a (.dK (W6 kvs k v))) \/
 ∃ kvs k b,H a=some (.dT kvs)/\y = .ref b/\H b=some (.tup (k.map kV))/\kvs.length<sizeLine/\H'=upd H a (.dT (W6 kvs k v))
theorem Vm.k {H:Hp} {a:Addr} {kvs:List (Key×V)} {k:Key} (e:H a=some (.dK kvs)):Vm H a (kV k) (W5 kvs k) := .inl ⟨kvs,k,.inl e,rfl,rfl⟩
section
variable {X:Cx} {pins:List (Addr×Obj)} {σ:St} {H:Hp} {s:Δ} {a:Addr} {y v:V} {u r:Α} {o:Option V} {A:τ} {E:Α->Δ->Prop}
theorem Inv.big (I:Inv X pins σ H s):dq<s.heap.objs.size:=by
 have h:ba<s.heap.objs.size:=(I.mod.glob.keeps I.bk).lt;exact Nat.lt_trans (by decide) h
theorem RT {Q:Α->Δ->Prop} (hu:A.units+1<cLine) (I:Inv X pins σ H s) (g:Vm H a y (some v)) (ry:YA y u) (h:∀ w' s',Inv X pins σ H s'->YA v w'->Q w' s') :
  Ξ (γ X.prog X.w) A (fT (.ref a) u) Q E s:=by
 rcases g with ⟨kvs,k,e,ey,l⟩ | ⟨kvs,k,b,e,ey,eb,l⟩
 ·subst ey
  obtain ⟨z,hd,vs,rel,dd⟩:=wB I.hok e;obtain ⟨w',hw,eF⟩:=X3.some_of (v:=v) (o:=valueAt vs k) (by rw [l];exact rel.val k);exact wpAny_getItem_of (Uy ry) dd.mapOf hw (h w' _ (I.tok _) eF)
 ·subst ey
  cases (show u=ac b from ry)
  obtain ⟨z,hd,xs,rel,dd⟩:=Gy I.hok e;obtain ⟨w',hw,eF⟩:=X3.some_of (v:=v) (o:=(atKey xs k).map (·.2)) (by rw [l];exact rel.val k);obtain ⟨p,hp,hp2⟩:=ο.mp hw;refine wpAny_getItem_heap (tupleKind_room_in1 hu) (Gw I.hok eb) dd hp ?_;rw [hp2];exact h w' _ (I.tok _) eF
theorem Gz {h':Heap} {t':Nat} {ob:HO} (I:Inv X pins σ H s) (mu:oh (H a)) (hs:cp a s.heap h') (he:∃ q,h'.get? a=some q) (new:YN X.prog X.w (upd H a ob) h' a ob) :
  Inv X pins σ (upd H a ob) { s with heap:=h',toks:=t' } :=
 I.write (x:=a) (e:=a) mu (.inl rfl) (fun b q hb z=>(hs.2 b hb).trans z) he new
theorem RV {P:Ο} {w:ε} {H':Hp} {h':Heap} {kvs:List (Key×V)} {vs:List (Key×Α)} (z:kvs.length<=sizeLine) (hd:(a==dq)=false) (rel:KV kvs vs) (dd:h'.DictOf (Y3 P w) a vs) :
  YN P w H' h' a (.dK kvs):=⟨z,hd,vs,rel,dd⟩
end
def qR (i:Expr):Prop:=∀ ov iv,subscripted i false ov iv=operate [ov,iv] (fT ov iv)
theorem GC {prog:Ο} {w:ε} {A:τ} {E:Α->Δ->Prop} {s:Δ} {env:Env} {value slice:Expr} {pos:Pos} {T id:String} {Q:Α->Δ->Prop}
  (hl:typeLookup (.type T) "__getitem__"=pure (some (.builtin id))) (hs:qR slice)
  (h:Ξ (γ prog w) A (eval value env) (fun o s₁=>Ξ (γ prog w) A (eval slice env) (fun i s₂=>s₂.TypeIs o T/\Ξ (γ prog w) A (fT o i) Q E s₂) E s₁) E s) :
  Ξ (γ prog w) A (eval (.Subscript value slice pos) env) Q E s:=by
 refine i5 (bo h (fun o s₁ h₁=>bo h₁ (fun i s₂ h₂=>?_) fun _ _ x=>x) fun _ _ x=>x);obtain ⟨hT,h₂⟩:=h₂;unfold subscriptTail;refine Θ ?_;rw [getitemInPython_of_ne hT.not_modules];refine Θ (ez hT hl ?_);have fin:Ξ (γ prog w) A (subscripted slice false o i) (fun r s₃=>Ξ (γ prog w) A (letTemporaryGo value o r >>= fun _=>pure r) Q E s₃) E s₂:=by
  rw [hs o i];exact wpAny_operating (bo h₂ (fun r s₃ h₃=>Θ (wpAny_letTemporaryGo (Ψ h₃))) fun _ _ x=>x)
 first
  | exact Ψ (Θ fin)
  | exact Θ (Ψ (Θ fin))
  | exact Θ fin
theorem RW {X:Cx} {pins:List (Addr×Obj)} {σ:St} {H:Hp} {s:Δ} {a:Addr} {y:V} {o:Option V} (I:Inv X pins σ H s) (g:Vm H a y o):s.TypeIs (.ref a) "dict":=by
 rcases g with ⟨kvs,k,e,_,_⟩ | ⟨kvs,k,b,e,_,_,_⟩
 ·obtain ⟨_,_,vs,_,dd⟩:=wB I.hok e
  exact dd.typeIs
 ·obtain ⟨_,_,xs,_,dd⟩:=Gy I.hok e
  exact dd.typeIs
def wC (td ty:TE):TE:=fun σ H Q=>td σ H fun x H1=>ty σ H1 fun y H2=>∃ a v,x = .ref a/\Vm H2 a y (some v)/\Q v H2
def GD (td ty tv:TE):TS:=fun D σ H=>tv σ H fun v H1=>td σ H1 fun x H2=>ty σ H2 fun y H3=>∃ a H4,x = .ref a/\M9 H3 a y v H4/\D.nx σ H4
section
variable {X:Cx} {o i e value:Expr} {pos pos' tpos:Pos} {td ty tv:TE}
theorem RX (hu:X.A.units+1<cLine) (ho:PE X o td) (hi:PE X i ty) (hs:qR i):PE X (.Subscript o i pos) (wC td ty):=by
 intro pins s σ H Q I h;refine GC F.slot_dict_getitem.lookup hs (aG (ho pins s σ H _ I h) fun u s1 ⟨x,H1,I1,rx,q1⟩=>aG (hi pins s1 σ H1 _ I1 q1) fun iv s2 ⟨y,H2,I2,ry,a,v,ex,g,q2⟩=>?_);subst ex;obtain rfl:u=ac a:=rx;exact ⟨RW I2 g,RT hu I2 g ry fun w' s3 I3 eF=>⟨v,H2,I3,eF,q2⟩⟩
end
theorem RZ {P:Ο} {w:ε} {H:Hp} (h:Heap) (hb:dq<h.objs.size):YN P w H (h.push { cls := .type "dict",data := .dict #[] }) h.objs.size (.dK []) :=
 ⟨az _,beq_eq_false_iff_ne.mpr (ω (υ hb)),[],.nil,Heap.DictOf.new h⟩
def GF:TE:=fun _ H Q=>∀ p,H p=none->Q (.ref p) (upd H p (.dT []))
def wD:List (TE×TE)->St->Hp->(List (V×V)->Hp->Prop)->Prop
 | [],_,H,Q=>Q [] H
 | (tk,tv)::r,σ,H,Q=>tk σ H fun x H1=>tv σ H1 fun y H2=>wD r σ H2 fun ps H3=>Q ((x,y)::ps) H3
abbrev VV:List (V×V)->List (Α×Α)->Prop:=Paired fun p q=>YA p.1 q.1/\YA p.2 q.2
def sy (X:Cx) (pos:Pos) (keys:List (Option Expr)) (values:List Expr) (gk:List (TE×TE)):Prop :=
 ∀ (pins:List (Addr×Obj)) (s:Δ) (σ:St) (H:Hp) (Q:List (V×V)->Hp->Prop),Inv X pins σ H s->wD gk σ H Q ->
  Ξ (γ X.prog X.w) X.A (evalPairs (pairTrees keys values X.env pos)) (fun vs s'=>∃ ps H',Inv X pins σ H' s'/\VV ps vs/\Q ps H') X.xe s
theorem R0 {X:Cx} {pos:Pos}:sy X pos [] [] []:=fun pins s σ H Q I h=>pairTrees_nil_walk ⟨[],H,I,.nil,h⟩
theorem R3 {X:Cx} {pos:Pos} {k v:Expr} {ks:List (Option Expr)} {vs:List Expr} {tk tv:TE} {gk:List (TE×TE)} (hk:PE X k tk) (hv:PE X v tv) (hr:sy X pos ks vs gk) :
  sy X pos (some k::ks) (v::vs) ((tk,tv)::gk):=fun pins s σ H Q I h =>
 pairTrees_cons_walk (aG (hk pins s σ H _ I h) fun u s1 ⟨x,H1,I1,rx,q1⟩=>aG (hv pins s1 σ H1 _ I1 q1) fun w2 s2 ⟨y,H2,I2,ry,q2⟩ =>
  aG (hr pins s2 σ H2 _ I2 q2) fun ws s3 ⟨ps,H3,I3,rel,q3⟩=>⟨(x,y)::ps,H3,I3,.cons ⟨rx,ry⟩ rel,q3⟩)
def VD (kvs more:List (Key×V)):List (Key×V):=more.foldl (fun acc kv=>W6 acc kv.1 kv.2) kvs
theorem KV.merge:∀ {more:List (Key×V)} {rs:List (Key×Α)} {kvs:List (Key×V)} {vs:List (Key×Α)},KV more rs->KV kvs vs->KV (VD kvs more) (merged vs rs):=by
 intro more rs kvs vs r;unfold KV at r
 induction r generalizing kvs vs with
 | nil=>intro q;exact q
 | @cons p q ps qs h t ih =>
  intro r0;have e:KV (W6 kvs p.1 p.2) (stored vs q.1 q.2):=by
   have:=r0.put p.1 h.2;rw [<- h.1];exact this
  exact ih e
theorem Vs:∀ (more kvs:List (Key×V)),(VD kvs more).length<=kvs.length+more.length
 | [],kvs=>by show kvs.length<=kvs.length+0;omega
 | p::r,kvs=>by
  have h1:=Vs r (W6 kvs p.1 p.2);have h2:=RQ kvs p.1 p.2
  show (VD (W6 kvs p.1 p.2) r).length<=_
  rw [am];omega
theorem Uz {P:Ο} {w:ε}:∀ {kvs:List (Key×V)} {ws:List (Α×Α)},VV (kvs.map fun kv=>(kV kv.1,kv.2)) ws->∃ rs,Carries (Y3 P w) ws rs/\KV kvs rs
 | [],_,r=>by rw [c6] at r;cases r;exact ⟨[],da,.nil⟩
 | p::kvs,_,r=>by
  rw [af] at r
  cases r with
  | @cons a b as bs h t =>
   obtain ⟨rs,c,q⟩:=Uz (P:=P) (w:=w) t;obtain ⟨b1,b2⟩:=b;exact ⟨(p.1,b2)::rs,⟨Uy h.1,rfl,c⟩,.cons ⟨rfl,h.2⟩ q⟩
def GJ (gk:List (TE×TE)):TE:=fun σ H Q=>∀ p,H p=none->wD gk σ (upd H p (.dK [])) fun ps H2=>H2 p=some (.dK [])/\∃ kvs:List (Key×V),ps=kvs.map (fun kv=>(kV kv.1,kv.2))/\kvs.length<=15/\Q (.ref p) (upd H2 p (.dK (VD [] kvs)))
theorem R4 {X:Cx} {pos:Pos} {keys:List (Option Expr)} {values:List Expr} {gk:List (TE×TE)} (h:sy X pos keys values gk) (hall:keys.all (·.isSome)=true) (hl:keys.length=values.length) (h0:keys≠[])
  (h15:keys.length<=15):PE X (.Dict keys values pos) (GJ gk):=by
 intro pins s σ H Q I q;have hn:=I.hok.fresh (Μ s.heap.objs.size);have I1:=I.laid (a:=s.heap.objs.size) (o := .dK []) (h':=s.heap.push { cls := .type "dict",data := .dict #[] }) (t':=s.toks) (fun _ _ q=>Η _ q) (Μ _) (RZ s.heap I.big);refine wpAny_Dict_walk (knd:=Y3 X.prog X.w) hall hl h0 h15 (aG (h pins _ σ _ _ I1 (q _ hn)) fun ws s2 ⟨ps,H2,I2,rel,e,kvs,ep,lk,q2⟩=>?_);subst ep;obtain ⟨rs,c,rk⟩:=Uz (P:=X.prog) (w:=X.w) rel;obtain ⟨z,hd,vs0,r0,dd⟩:=Eb I2.hok e
 cases r0
 refine ⟨rs,c,dd,fun h' oK hs=>⟨.ref s.heap.objs.size,_,?_,rfl,q2⟩⟩;have hz:(VD [] kvs).length<=sizeLine:=by
  have h1:=Vs kvs [];rw [ik] at h1
  rw [sizeLine_eq];omega
 have he:∃ q,h'.get? s.heap.objs.size=some q:=let ⟨q,_,_,hq,_⟩:=oK;⟨q,hq⟩
 exact Gz I2 (by rw [e];exact da) hs he (RV hz hd (rk.merge .nil) oK)
structure M1 (X:Cx) (o:Expr) (m:Str) (apos:Pos) (e:Expr) (cpos:Pos):Prop where
 base:er o m X.env (eval o X.env)=eval o X.env
 few:((bv cpos (Φ [e] X.env)).all (fun x => !x.1)&&(ir cpos (e9 [] X.env)).all (fun x=>x.1.isSome)
  && decide (([e]:List Expr).length+([]:List iq).length+(if ([]:List iq).isEmpty then 0 else 1)<30))=true
 line:(apos.endLine==cpos.line)=true
 trees:bv cpos (Φ [e] X.env)=[(false,eval e X.env)]
structure M2 (X:Cx) (o:Expr) (m:Str) (apos:Pos) (e f:Expr) (cpos:Pos):Prop where
 base:er o m X.env (eval o X.env)=eval o X.env
 few:((bv cpos (Φ [e,f] X.env)).all (fun x => !x.1)&&(ir cpos (e9 [] X.env)).all (fun x=>x.1.isSome)
  && decide (([e,f]:List Expr).length+([]:List iq).length+(if ([]:List iq).isEmpty then 0 else 1)<30))=true
 line:(apos.endLine==cpos.line)=true
 trees:bv cpos (Φ [e,f] X.env)=[(false,eval e X.env),(false,eval f X.env)]
theorem WJ (env:Env):∀ (names:List (Str×ft)) (cs:List (Str×Addr)),(∀ x,(x,aa)∈names->∃ c,env.cells.lookup x=some c) ->
  ∃ cl,(forIn names cs fun (p:Str×ft) (cs:List (Str×Addr))=>(if (p.2==aa)=true then (do let c <- cellOf env p.1;pure (eA ((p.1,c)::cs))) else pure (eA cs):Sem (ForInStep (List (Str×Addr)))))=pure cl /\
   (∀ x c,cl.lookup x=some c->env.cells.lookup x=some c\/cs.lookup x=some c)/\(∀ x,(x,aa)∈names->∃ c,cl.lookup x=some c)/\(∀ x c,cs.lookup x=some c->∃ d,cl.lookup x=some d)
 | [],cs,_=>⟨cs,by simp,fun _ _ h => .inr h,(fun _ h=>nomatch h),fun x c h=>⟨c,h⟩⟩
 | (n,k)::r,cs,h=>by
  by_cases hk:k=aa
  ·subst hk
   obtain ⟨c,hc⟩:=h n (fF ..);obtain ⟨cl,e,a,b,d⟩:=WJ env r ((n,c)::cs) (fun x hx=>h x (bq _ hx));have hcell:cellOf env n=pure c:=by unfold cellOf;rw [hc]
   refine ⟨cl,?_,fun x c' hx=>?_,fun x hx=>?_,fun x c' hx=>?_⟩
   ·rw [List.forIn_cons]
    simp only [beq_self_eq_true,if_true,hcell,pure_bind];exact e
   ·rcases a x c' hx with q | q
    ·exact .inl q
    ·rw [θ] at q
     by_cases hxn:(x==n)=true
     ·rw [hxn] at q
      have hx':x=n:=by simpa using hxn
      subst hx';have:c=c':=by simpa using q
      subst this;exact .inl hc
     ·rw [Bool.eq_false_iff.mpr hxn] at q
      exact .inr q
   ·rcases Υ.mp hx with q | q
    ·have hx':x=n:=congrArg Prod.fst q
     subst hx';exact d x c (by rw [θ];simp)
    ·exact b x q
   ·have:∃ d',((n,c)::cs).lookup x=some d':=by
     rw [θ];by_cases hxn:(x==n)=true
     ·rw [hxn];exact ⟨c,rfl⟩
     ·rw [Bool.eq_false_iff.mpr hxn];exact ⟨c',hx⟩
    obtain ⟨d',hd'⟩:=this;exact d x d' hd'
  ·obtain ⟨cl,e,a,b,d⟩:=WJ env r cs (fun x hx=>h x (bq _ hx))
   have hkf:(k==aa)=false:=by simpa using hk
   refine ⟨cl,?_,a,fun x hx=>?_,d⟩
   ·rw [List.forIn_cons]
    simp only [hkf,cq,if_false,pure_bind];exact e
   ·rcases Υ.mp hx with q | q
    ·exact absurd (congrArg Prod.snd q).symm hk
    ·exact b x q
theorem UA (env:Env) (scope:cw) (h:∀ x,(x,aa)∈scope.names->∃ c,env.cells.lookup x=some c) :
  ∃ cl,ib scope env=pure cl/\(∀ x c,cl.lookup x=some c->env.cells.lookup x=some c)/\(∀ x,(x,aa)∈scope.names->∃ c,cl.lookup x=some c):=by
 obtain ⟨cl,e,a,b,_⟩:=WJ env scope.names [] h;refine ⟨cl,?_,fun x c hx=>(a x c hx).elim id (fun z=>by simp at z),b⟩;unfold ib;simp only [bind_pure];exact e
def bZ (X:Cx) (scope:cw) (N':List Str) (cl:List (Str×Addr)) (C:Addr) (s₀:Δ) (H₀:Hp) (fp:List Addr) (pn:List (Addr×Obj)):Cx :=
 { X with N:=N',s₀:=s₀,H₀:=H₀,env:=gz scope cl C X.env,outer:=X.stack,ex:=fp,fn:=fun _=>false,pn:=pn,xe:=fun _ _=>False }
inductive dW (X:Cx) (scope:cw):List (Option Nat)->List Str->Prop
 | nil:dW X scope [] []
 | own {x src N'}:dW X scope src N'->dW X scope (none::src) (x::N')
 | cap {x i src N'}:X.N[i]?=some x->scope.names.lookup x=some aa->(X.env.scope.names.lookup x=some et\/X.env.scope.names.lookup x=some aa)->dW X scope src N'->dW X scope (some i::src) (x::N')
def YF (src:List (Option Nat)) (σ:St):St:=src.map fun o=>match o with | none=>none | some i=>σ.getD i none
theorem dW.length {X:Cx} {scope:cw}:∀ {src:List (Option Nat)} {N':List Str},dW X scope src N'->src.length=N'.length
 | _,_,.nil=>rfl
 | _,_,.own h=>congrArg (·+1) h.length
 | _,_,.cap _ _ _ h=>congrArg (·+1) h.length
theorem dW.get {X:Cx} {scope:cw} {σ:St}:∀ {src:List (Option Nat)} {N':List Str},dW X scope src N'->∀ (j:Nat) (x:Str) (v:V),N'[j]?=some x->(YF src σ)[j]?=some (some v) ->
  ∃ i:Nat,X.N[i]?=some x/\σ[i]?=some (some v)/\scope.names.lookup x=some aa/\(X.env.scope.names.lookup x=some et\/X.env.scope.names.lookup x=some aa)
 | _,_,.nil,j,x,v,h,_=>by simp at h
 | _,_,.own h,0,x,v,_,e=>by simp [YF] at e
 | _,_,.own h,j+1,x,v,e1,e2=>h.get j x v (by simpa using e1) (by simpa [YF] using e2)
 | _,_,.cap (x:=y) (i:=i) hN hf hk h,0,x,v,e1,e2=>by
  have ex:y=x:=by simpa using e1
  subst ex;refine ⟨i,hN,?_,hf,hk⟩;simp only [YF,af,List.getElem?_cons_zero,Option.some.injEq] at e2;rw [d3] at e2
  cases q:σ[i]? with
  | none=>rw [q] at e2;simp at e2
  | some o=>rw [q] at e2;simp at e2;rw [e2]
 | _,_,.cap hN hf hk h,j+1,x,v,e1,e2=>h.get j x v (by simpa using e1) (by simpa [YF] using e2)
theorem Ve (env:Env) (x:Str):∀ {names:List (Str×ft)},
  (names.map fun (n,k)=>if (k==aa&&env.scope.kind == .function&&env.kindOf n==some .cell) then (n,et) else (n,k)).lookup x =
   (names.lookup x).map fun k=>if (k==aa&&env.scope.kind == .function&&env.kindOf x==some .cell) then et else k
 | []=>rfl
 | (n,k)::r=>by
  have ih:=@Ve env x r;rw [af];dsimp only;by_cases hx:(x==n)=true
  ·have e:x=n:=by simpa using hx
   subst e;by_cases hc:(k==aa&&env.scope.kind == .function&&env.kindOf x==some .cell)=true
   ·rw [if_pos hc,θ,θ,hx]
    simp only [ie];rw [if_pos hc]
   ·rw [if_neg hc,θ,θ,hx]
    simp only [ie];rw [if_neg hc]
  ·have hx':=Bool.eq_false_iff.mpr hx
   by_cases hc:(k==aa&&env.scope.kind == .function&&env.kindOf n==some .cell)=true
   ·rw [if_pos hc];simp only [θ,hx'];exact ih
   ·rw [if_neg hc];simp only [θ,hx'];exact ih
theorem WQ {names:List (Str×ft)} {x:Str} (h:names.lookup x=some aa):(x,aa)∈names:=bu h
section
variable {X:Cx}
theorem R5 {scope:cw} {N':List Str} {src:List (Option Nat)} {cl:List (Str×Addr)} {pins:List (Addr×Obj)} {σ:St} {H:Hp} {s s':Δ} {h':Heap} {tk:Nat} {fp:List Addr} {m:Str->Option Α}
  (hk:scope.kind = .function) (hcell:∀ y∈scope.names,y.2 ≠ .cell) (hcap:dW X scope src N')
  (a:∀ x c,cl.lookup x=some c->X.env.cells.lookup x=some c) (b:∀ x,(x,aa)∈scope.names->∃ c,cl.lookup x=some c)
  (I:Inv X pins σ H s) (hf:∀ b∈fp,X6 X pins H b) (hfl:∀ b∈fp,b<s.heap.objs.size) (es':s'={ s with heap:=h',toks:=tk })
  (keep:∀ b o,s.heap.get? b=some o->h'.get? b=some o) (hn:h'.Ns s.heap.objs.size m) :
  Inv (bZ X scope N' cl s.heap.objs.size s H fp (X.pn++pins)) [] (YF src σ) H s':=by
 subst es';have kindOf:∀ x,(gz scope cl s.heap.objs.size X.env).kindOf x=(scope.names.lookup x).map fun k=>if (k==aa&&X.env.scope.kind == .function&&X.env.kindOf x==some .cell) then et else k:=fun x=>Ve X.env x
 have freeOf:∀ x,((gz scope cl s.heap.objs.size X.env).kindOf x=some .cell\/(gz scope cl s.heap.objs.size X.env).kindOf x=some .free)->scope.names.lookup x=some .free:=fun x h=>by
  rw [kindOf] at h
  cases q:scope.names.lookup x with
  | none=>rw [q] at h;simp at h
  | some k =>
   rw [q] at h
   by_cases hkf:k=aa
   ·rw [hkf]
   ·have Nb:(k==aa)=false:=by simpa using hkf
    simp only [ie,Nb,Bool.false_and,cq,if_false] at h;rcases h with h | h
    ·exact absurd (Λ h) (hcell _ (bu q))
    ·exact absurd (Λ h) hkf
 refine ⟨⟨I.ok.mod,hk,I.ok.glob,I.ok.blt,Μ _,fun x y c h1 h2=>I.ok.inj x y c (a x c h1) (a y c h2),fun x hx=>b x (WQ (freeOf x hx)),(fun x c z _=>nomatch z),I.ok.hd,I.ok.frames,.inl rfl,fun b' hb=>?_,I.bs,ah I.ok.eE I.sz,fun b' o e hb=>?_,fun b' hb z=>?_,I.stack,I.lR⟩,
  rfl,I.bare,Un.kept keep,⟨m,hn,fun j x v h1 h2 h3=>?_⟩,fun x c h=>?_,I.hok.fresh (Μ _),fun x c h=>I.aZ x c (a x c h),fun p hp=>?_,I.hok.kept keep,?_⟩
 ·obtain ⟨f0,f1,f2,f3,f4,f5⟩:=hf b' hb
  exact ⟨υ (hfl b' hb),fun x c h=>f4 x c (a x c h)⟩
 ·obtain ⟨f0,f1,f2,f3,f4,f5⟩:=hf b' hb
  rcases f3 with z | z
  ·exact I.ok.jw b' o e z
  ·exact absurd (ρ (Ρ e) (ah I.ok.eE z)) (de _)
 ·obtain ⟨f0,f1,f2,f3,f4,f5⟩:=hf b' hb
  rcases Υ.mp (I.eH b' z) with e | e
  ·exact f1 e
  ·exact f2 e
 ·obtain ⟨i,e1,e2,e3,e4⟩:=hcap.get j x v h1 h2
  obtain ⟨m0,hn0,hl⟩:=I.loc;obtain ⟨u,r,l⟩:=hl i x v e1 e2 (by rcases e4 with e4 | e4;exact .inr (.inl e4);exact .inr (.inr e4));refine ⟨u,r,?_⟩;rcases l with ⟨l,_⟩ | ⟨k,c,e,z⟩
  ·have l':X.env.scope.names.lookup x=some ft.local:=l
   rcases e4 with e4 | e4<;>(rw [e4] at l';cases l')
  ·refine .inr ⟨?_,?_⟩
   ·show (gz scope cl s.heap.objs.size X.env).kindOf x=some .cell\/(gz scope cl s.heap.objs.size X.env).kindOf x=some .free
    rw [kindOf,e3];simp only [ie]
    split
    ·exact .inl rfl
    ·exact .inr rfl
   ·obtain ⟨c',hc'⟩:=b x (WQ e3)
    have:=a x c' hc';rw [e] at this
    cases this
    obtain ⟨o,ho,hd⟩:=z;exact ⟨c,hc',o,keep _ _ ho,hd⟩
 ·obtain ⟨v,o,ho,hd⟩:=I.cell x c (a x c h)
  exact ⟨v,o,keep _ _ ho,hd⟩
 ·have hp':p∈X.pn++pins:=by simpa [bZ] using hp
  obtain ⟨e,n,ne,nf,d⟩:=I.pin p hp';refine ⟨keep _ _ e,n,υ (Ρ e),fun z=>?_,d⟩;rcases Υ.mp (I.eH p.1 z) with q | q
  ·exact ne q
  ·exact nf q
 ·show (YF src σ).length=N'.length
  rw [<- hcap.length];simp [YF]
end
section
variable {prog:Ο} {w:ε} {A:τ} {R:Result->Δ->Prop} {s:Δ}
theorem R6 {elt tg iter:Expr} {ifs:List Expr} {scope:cw} {pos:Pos} {it acc:Α} {env:Env} (J:Nat->Δ->Prop)
  (turn:∀ n s,J n s->Ξ (γ prog w) A (pyNext it) (fun r s₁=>match r with
    | none=>R (.ok .next) s₁
    | some v=>Ξ (γ prog w) A (fk tg it v) (fun _ z₁=>Ξ (γ prog w) A (assign tg env v) (fun _ s₂ =>
      Ξ (γ prog w) A (forIn ifs true fun c r=>if r=true then do let ok <- isTrue c env (eval c env);pure (eA ok) else pure (eA r))
       (fun ok s₃=>if ok=true then Ξ (γ prog w) A (eval elt env) (fun x s₄=>Ξ (γ prog w) A (call (.builtin "list.append") [acc,x]) (fun _ s₅=>∃ m,m<n/\J m s₅) (fun _ _=>False) s₄) (notedBy (γ prog w) A env fun e s'=>R (.error e) s') s₃
        else ∃ m,m<n/\J m s₃) (fun _ _=>False) s₂) (fun _ _=>False) z₁) (fun _ _=>False) s₁) (fun _ _=>False) s)
  (n:Nat) (h:J n s):f6 (γ prog w) A (.compLoop (.ListComp elt [⟨tg,iter,ifs,0⟩] scope pos) 0 it acc env) R s:=by
 refine codeAny_loop rfl J (fun n s hJ=>?_) n h
 show Ξ _ A (Sem.onRaise (compTurn (.ListComp elt [⟨tg,iter,ifs,0⟩] scope pos) 0 it acc env) (fun x=>do noteFrame x env;theTreesLotGoes x)) _ _ s
 refine wpAny_noted ?_;rw [compTurn_list];have no:∀ {E:Α->Δ->Prop},∀ (e:Α) (s':Δ),False->E e s':=fun _ _ f=>f.elim
 refine Θ (wpAny_standAt (Θ (bo (turn n s hJ) (fun r s₁ h₁=>?_) no)))
 cases r with
 | none=>exact Ψ h₁
 | some v =>
  refine Θ (bo h₁ (fun _ z₁ hz=>?_) no);refine Θ (bo hz (fun _ s₂ h₂=>Θ (bo h₂ (fun ok s₃ h₃=>?_) no)) no)
  cases ok with
  | false=>exact Ψ ⟨rfl,h₃⟩
  | true =>
   exact Θ (Θ (bo h₃ (fun x s₄ h₄=>Θ (bo h₄ (fun _ s₅ h₅=>Ψ (Ψ ⟨rfl,h₅⟩)) no)) fun _ _ z=>z))
end
def oM (X:Cx) (ifs:List Expr) (t:TT):Prop :=
 ∀ (pins:List (Addr×Obj)) (s:Δ) (σ:St) (H:Hp) (Q:Bool->Hp->Prop),Inv X pins σ H s->t σ H Q ->
  Ξ (γ X.prog X.w) X.A (forIn ifs true fun c r=>if r=true then do let ok <- isTrue c X.env (eval c X.env);pure (eA ok) else pure (eA r)) (TP X pins σ Q) X.xe s
def XI:TT:=fun _ H Q=>Q true H
theorem YV {X:Cx}:oM X [] XI:=fun _ _ _ H _ I h=>wpAny_tests_nil ⟨H,I,h⟩
theorem GK {X:Cx} {c:Expr} {t:TT} (h:PT X c t):oM X [c] t:=fun pins s σ H Q I q=>wpAny_tests_one (h pins s σ H Q I q)
def LC (src:List (Option Nat)) (J:It) (g:TG) (tt:TT) (te:TE) (σ:St) (H1:Hp) (Q:VK) (D:Addr):Prop:=∃ W:Nat->Nat->List V->St->Hp->Prop,(∃ m,W 0 m [] (YF src σ) (upd H1 D (.lst []))) /\
 ∀ i m ys σ' H2,W i m ys σ' H2->H2 D=some (.lst ys)/\((J.stop i H2/\Q (.ref D) H2)\/(J.go i H2/\∃ N:List V->St->Hp->Prop,(∀ ys' σ3 H3,N ys' σ3 H3->∃ m',m'<m/\W (i+1) m' ys' σ3 H3)/\∀ x H3,J.fY i H2 x H3->g x σ' H3 fun σ2 H4=>tt σ2 H4 fun b H5 =>
  if b=true then te σ2 H5 fun y H6=>H6 D=some (.lst ys)/\ys.length<sizeLine/\N (ys++[y]) σ2 (upd H6 D (.lst (ys++[y])))
  else N ys σ2 H5))
def dj (src:List (Option Nat)) (wi:TI) (g:TG) (tt:TT) (te:TE):TE:=fun σ H Q=>wi σ H fun J H1=>∀ D,H1 D=none->LC src J g tt te σ H1 Q D
section
variable {X:Cx}
theorem GP {elt tg iter:Expr} {ifs:List Expr} {scope:cw} {pos:Pos} {src:List (Option Nat)} {N':List Str} {g:TG} {tt:TT} {te:TE} {cl:List (Str×Addr)} {pins:List (Addr×Obj)} {σ:St} {Q:VK} {itv:Α} {s2:Δ} {Po:Α->Addr->Result->Δ->Prop} {Z:Addr->Δ->Hp->List Addr->List (Addr×Obj)->Α->Δ->Prop}
  (hcap:dW X scope src N') (hc:X.calm=true) (hg:∀ C s₀ H₀ fp pn,PG (bZ X scope N' cl C s₀ H₀ fp pn) tg g) (ht:∀ C s₀ H₀ fp pn,oM (bZ X scope N' cl C s₀ H₀ fp pn) ifs tt)
  (he:∀ C s₀ H₀ fp pn,PE ((bZ X scope N' cl C s₀ H₀ fp pn).wish (Z C s₀ H₀ fp pn)) elt te) (hk:scope.kind = .function) (hcell:∀ y∈scope.names,y.2 ≠ .cell) (a:∀ x c,cl.lookup x=some c->X.env.cells.lookup x=some c) (b:∀ x,(x,aa)∈scope.names->∃ c,cl.lookup x=some c)
  (h2:PIE X pins σ tg (fun J H1=>∀ D,H1 D=none->LC src J g tt te σ H1 Q D) itv s2)
  (done:∀ (D C:Addr) (s6:Δ) (H5:Hp),(∀ h',cp C s6.heap h'->Inv X pins σ H5 { s6 with heap:=h' })->(∃ m,s6.heap.Ns C m)->H5 C=none->(∀ {H':Hp},H' C=none->X6 X pins H' C)->Q (.ref D) H5->Po (.ref D) C (.ok .next) s6)
  (gone:∀ (D:Addr) (s3:Δ) (H3:Hp) (fp:List Addr),Inv X pins σ H3 s3->(∀ {H':Hp} {s':Δ} {σ':St} {dY:List (Addr×Obj)},Inv (bZ X scope N' cl s3.heap.objs.size s3 H3 fp (X.pn++pins)) dY σ' H' s'->∀ h',cp s3.heap.objs.size s'.heap h'->Inv X pins σ H' { s' with heap:=h' }) ->
   ∀ e s',Z s3.heap.objs.size s3 H3 fp (X.pn++pins) e s'->notedBy (γ X.prog X.w) X.A (gz scope cl s3.heap.objs.size X.env) (fun e s'=>Po (.ref D) s3.heap.objs.size (.error e) s') e s') :
  Ξ (γ X.prog X.w) X.A (newList []) (fun acc s₃=>Ξ (γ X.prog X.w) X.A (newFunctionEnv scope X.env.globals cl [] X.env.qual none bE (some X.env)) (fun cenv s₄ =>
   f6 (γ X.prog X.w) X.A (.compStart (.ListComp elt [⟨tg,iter,ifs,0⟩] scope pos) 0 itv acc { cenv with scope:=relabel scope X.env }) (Po acc cenv.locals) s₄) X.xe s₃) X.xe s2:=by
 obtain ⟨it,fp,tn,J,H2,e,I2,T,st2,f2,q⟩:=h2;subst e;have hD:H2 s2.heap.objs.size=none:=I2.hok.fresh (Μ _);obtain ⟨W,⟨m0,w0⟩,turn⟩:=q s2.heap.objs.size hD;have I3:=I2.wA (t':=s2.toks) (ys:=[]) (its:=[]) .nil (az _);have R7:∀ b∈fp,b<s2.heap.objs.size:=fun b hb=>by
  obtain ⟨o,e,_⟩:=T.obj _ _ st2 b hb;exact Ρ e
 refine b9 ?_;generalize GQ:({ s2 with heap:=s2.heap.push { cls := .type "list",dict:=none,data := .seq ([]:List Α).toArray } }:Δ)=s3;have oN:Inv X pins σ (upd H2 s2.heap.objs.size (.lst [])) s3:=GQ▸I3
 have Ec:∀ b o,s2.heap.get? b=some o->s3.heap.get? b=some o:=fun b o e=>by rw [<- GQ];exact Η _ e
 have st3:tn 0 s3.heap:=T.keep _ _ _ st2 fun b _ o e=>Ec b o e
 have GR:∀ b∈fp,b<s3.heap.objs.size:=fun b hb=>by
  obtain ⟨o,e,_⟩:=T.obj _ _ st3 b hb;exact Ρ e
 have f3:∀ b∈fp,X6 X pins (upd H2 s2.heap.objs.size (.lst [])) b:=fun b hb=>⟨by rw [Yg (υ (R7 b hb))];exact (f2 b hb).1,(f2 b hb).2⟩
 generalize eD:s2.heap.objs.size=D at *;generalize eH3:upd H2 D (.lst [])=H3 at *;refine eS hcell (by intro y hy;simp at hy) (fun h₁ hns₁ hsb₁=>?_) hk;have mU:∀ b o,s3.heap.get? b=some o->h₁.get? b=some o:=fun b o e=>hsb₁.extBut b o (υ (Ρ e)) (Η _ e)
 have I4:=R5 (N':=N') (src:=src) (tk:=s3.toks+([]:List (Str×Α)).length) hk hcell hcap a b oN f3 GR rfl mU hns₁;have stat:∀ {H':Hp},(∀ b∈fp,H' b=none)->∀ b∈fp,X6 (bZ X scope N' cl s3.heap.objs.size s3 H3 fp (X.pn++pins)) [] H' b:=fun hn b' hb=>by
  obtain ⟨f0,f1,fs,fe,f4,f5⟩:=f3 b' hb;refine ⟨hn b' hb,υ (GR b' hb),fun z=>?_,.inl hb,fun x c h=>f4 x c (a x c h),fun p hp=>f5 p (by simpa [bZ] using hp)⟩;rcases Υ.mp (oN.eH b' z) with e | e
  ·exact f1 e
  ·exact fs e
 have fin:∀ {H':Hp} {s':Δ} {σ':St} {dY:List (Addr×Obj)},Inv (bZ X scope N' cl s3.heap.objs.size s3 H3 fp (X.pn++pins)) dY σ' H' s'->∀ h',cp s3.heap.objs.size s'.heap h'->Inv X pins σ H' { s' with heap:=h' }:=fun {H' s' σ' dY} J' h' sb=>by
  have same:∀ b o,b≠s3.heap.objs.size->s'.heap.get? b=some o->h'.get? b=some o:=fun b o hb e=>sb.extBut b o hb e
  have u:Un (frs X.stack) fp H3 H' s3.heap s'.heap:=J'.base;refine oN.call' (s':={ s' with heap:=h' }) (ch:=fp) J'.os ⟨fun b o e n hb hx=>?_,fun b o e n hb hx=>?_,u.free,fun b o e hx=>?_,u.tups,u.bI,u.bU⟩ (fun b o e=>?_) J'.bare fun b hb=>?_
  ·exact same b o (υ (Ρ e)) (u.keep b o e n hb hx)
  ·obtain ⟨sl,z⟩:=u.slot b o e n hb hx
   exact ⟨sl,same b _ (υ (Ρ e)) z⟩
  ·obtain ⟨o',z⟩:=u.there b o e hx
   exact ⟨o',same b o' (υ (Ρ e)) z⟩
  ·have nC:∀ c v,H' c=some v->c≠s3.heap.objs.size:=fun c v z q=>by
    have:=J'.free;rw [show (bZ X scope N' cl s3.heap.objs.size s3 H3 fp (X.pn++pins)).env.locals=s3.heap.objs.size from rfl,<- q,z] at this
    cases this
   refine (J'.hok b o e).stay (fun c v hc q=>same c v ?_ q) (fun _ q=>q) fun _ _ q=>q
   rcases hc with z | z
   ·rw [z];exact nC b o e
   ·exact nC c _ z
  ·obtain ⟨f0,f1,fs,fe,f4,f5⟩:=f3 b hb
   exact ⟨fe,f1,f4,f5⟩
 have loop:f6 (γ X.prog X.w) X.A (.compLoop (.ListComp elt [⟨tg,iter,ifs,0⟩] scope pos) 0 (.ref it) (.ref D) (gz scope cl s3.heap.objs.size X.env))
   (Po (.ref D) s3.heap.objs.size) { s3 with heap:=h₁,toks:=s3.toks+([]:List (Str×Α)).length }:=by
  refine R6 (fun n s'=>∃ i ys σ' H',Inv (bZ X scope N' cl s3.heap.objs.size s3 H3 fp (X.pn++pins)) [] σ' H' s'/\tn i s'.heap/\(∀ b∈fp,H' b=none)/\W i n ys σ' H') ?_ m0 ⟨0,[],YF src σ,H3,I4,T.keep _ _ _ st3 fun b _ o e=>mU b o e,fun b hb=>(f3 b hb).1,w0⟩;rintro n s5 ⟨i,ys,sG,H5,I5,lX,fZ,w5⟩;obtain ⟨hDs,stop | go⟩:=turn i n ys sG H5 w5
  ·obtain ⟨stop,qn⟩:=stop
   refine aG (T.done (bZ X scope N' cl s3.heap.objs.size s3 H3 fp (X.pn++pins)) rfl rfl rfl hc i [] s5 sG H5 _ I5 (stat fZ) lX stop) fun r s6 ⟨hr,I6⟩=>?_
   subst hr;obtain ⟨m,hn,_⟩:=id I6.loc;exact done D _ s6 H5 (fun h' sb=>fin I6 h' sb) ⟨m,hn⟩ I6.free (fun z=>oN.dO (Μ _) z) qn
  ·obtain ⟨go,N,hN,step⟩:=go
   refine aG (T.item (bZ X scope N' cl s3.heap.objs.size s3 H3 fp (X.pn++pins)) rfl rfl rfl hc i [] s5 sG H5 _ I5 (stat fZ) lX go) fun r s6 ⟨u,hr,h6⟩=>?_
   subst hr;refine aG h6 fun _ s7 ⟨x,H7,I7,r7,y7,wF,R8⟩=>?_
   have R9:=I7.pinned (stat R8) (T.obj _ _ wF);have again:∀ {s8:Δ} {iK:St} {H8:Hp} {ys':List V},Inv (bZ X scope N' cl s3.heap.objs.size s3 H3 fp (X.pn++pins)) ([]++Vx fp s7.heap) iK H8 s8->(∃ m',m'<n/\W (i+1) m' ys' iK H8) ->
     ∃ m,m<n/\∃ i ys σ' H',Inv (bZ X scope N' cl s3.heap.objs.size s3 H3 fp (X.pn++pins)) [] σ' H' s8/\tn i s8.heap/\(∀ b∈fp,H' b=none)/\W i m ys σ' H':=fun {s8 iK H8 ys'} I8 ⟨m',hm,w8⟩=>by
    refine ⟨m',hm,i+1,ys',iK,H8,I8.dg,T.keep _ _ _ wF fun b hb o e=>(I8.pin (b,o) (ap _ (ap _ (X7 hb e)))).1,fun b hb=>?_,w8⟩;obtain ⟨o,e,d⟩:=T.obj _ _ wF b hb;exact (I8.pin (b,o) (ap _ (ap _ (X7 hb e)))).2.1
   refine aG (hg _ s3 H3 fp _ _ s7 sG H7 x u _ R9 r7 (step x H7 y7)) fun _ s8 ⟨iK,H8,I8,q8⟩=>?_
   refine aG (ht _ s3 H3 fp _ _ s8 iK H8 _ I8 q8) fun ok s9 ⟨H9,I9,q9⟩=>?_
   cases ok with
   | false=>exact again I9 (hN _ _ _ q9)
   | true =>
    rw [if_pos rfl];refine bo (he _ s3 H3 fp _ _ s9 iK H9 _ (I9.wish _) q9) (fun y dw ⟨yv,iM,Nf,r10,Sd⟩=>?_) (gone D s3 H3 fp oN fin);have Sg:=Nf.cA;obtain ⟨Sq,hlen,w10⟩:=Sd;refine aG (Y6 (X:=bZ X scope N' cl s3.heap.objs.size s3 H3 fp (X.pn++pins)) _ dw iK iM (.ref D) [yv] (.ref D) [y] (fun _ H'=>H'=upd iM D (.lst (ys++[yv]))) Sg rfl (.cons r10 .nil) ⟨ys,Sq,hlen,rfl⟩) fun _ s11 ⟨_,sH,Ss,_,Sv⟩=>?_
    subst Sv;exact again Ss (hN _ _ _ w10)
 exact codeAny_compStart_list loop (T.self _ 0 _ _ _ (T.keep _ _ _ st3 fun b _ o e=>mU b o e) loop)
theorem Xj {elt tg iter:Expr} {ifs:List Expr} {scope:cw} {pos:Pos} {src:List (Option Nat)} {N':List Str} {wi:TI} {g:TG} {tt:TT} {te:TE} (hcap:dW X scope src N') (hc:X.calm=true) (hi:PI X tg iter wi)
  (hg:∀ cl C s₀ H₀ fp pn,PG (bZ X scope N' cl C s₀ H₀ fp pn) tg g) (ht:∀ cl C s₀ H₀ fp pn,oM (bZ X scope N' cl C s₀ H₀ fp pn) ifs tt) (he:∀ cl C s₀ H₀ fp pn,PE (bZ X scope N' cl C s₀ H₀ fp pn) elt te)
  (hfree:∀ x,(x,aa)∈scope.names->X.env.scope.names.lookup x=some et\/X.env.scope.names.lookup x=some aa)
  (hk:scope.kind = .function) (hcell:∀ y∈scope.names,y.2 ≠ .cell) (hnames:∀ y∈scope.names,y.2 = .local->scope.names.lookup y.1=some .local)
  (hs:∀ x,foldedSetIterable iter X.env x=pure x):PE X (.ListComp elt [⟨tg,iter,ifs,0⟩] scope pos) (dj src wi g tt te):=by
 intro pins s σ H Q I h;obtain ⟨cl,hcl,a,b⟩:=UA X.env scope fun x hx=>I.ok.has x (hfree x hx)
 rw [eval_ListComp];refine wpAny_comprehension_free (use:=none) rfl hs hcl hk hnames (aG (hi pins s σ H _ I h) fun v s1 h1=>aG h1 fun itv s2 h2=>?_);exact GP (Po:=fun v C=>compPost (γ X.prog X.w) X.A X.xe none (EP X pins σ Q) v C) (Z:=fun _ _ _ _ _ _ _=>False) hcap hc (hg cl) (ht cl) (he cl) hk hcell a b h2 (fun D C s6 H5 fi ⟨m,hn⟩ _ _ qn=>⟨m,hn,fun h' sb=>⟨.ref D,H5,fi h' sb,rfl,qn⟩⟩) fun _ _ _ _ _ _ _ _ z=>z.elim
end
def W7 (x:Str) (lo hi:Option Int):Str:=⟨((x.cps.toList.drop (HT.aK x.length 0 lo)).take (HT.aK x.length x.length hi - HT.aK x.length 0 lo)).toArray⟩
theorem UB (lo hi:Option Int) (n:Nat):Builtin.Str.strSliceIndices lo hi 1 n=(ai (HT.aK n n hi - HT.aK n 0 lo)).map fun k=>HT.aK n 0 lo+k:=by
 have clip:∀ (v:Int) (d:Nat),max 0 (min (if v<0 then v+(n:Int) else v) (n:Int))=((HT.aK n d (some v):Nat):Int):=fun v d=>by
  show _=(((if v<0 then (v+(n:Int)).toNat else min v.toNat n):Nat):Int)
  by_cases hv:v<0
  ·simp only [if_pos hv];omega
  ·simp only [if_neg hv];omega
 have key:∀ (i j:Nat),i3 (i:Int) (j:Int) 1=(ai (j - i)).map fun k=>i+k:=fun i j=>by
  unfold i3;have e:(if (1:Int)>0 then (if (i:Int)<(j:Int) then ((j:Int) - (i:Int)+1 - 1) / 1 else 0) else (if (i:Int)>(j:Int) then ((i:Int) - (j:Int) - 1 - 1) / (-1) else 0)).toNat=j - i:=by
   rw [if_pos (by decide)];by_cases h:(i:Int)<(j:Int)
   ·rw [if_pos h,Int.ediv_one];omega
   ·rw [if_neg h];omega
  dsimp only;rw [e];refine List.map_congr_left fun k _=>?_
  omega
 have lo':(match lo with | none=>(0:Int) | some v=>max 0 (min (if v<0 then v+(n:Int) else v) (n:Int)))=((HT.aK n 0 lo:Nat):Int):=by
  cases lo with
  | none=>rfl
  | some v=>exact clip v 0
 have hi':(match hi with | none=>(n:Int) | some v=>max 0 (min (if v<0 then v+(n:Int) else v) (n:Int)))=((HT.aK n n hi:Nat):Int):=by
  cases hi with
  | none=>rfl
  | some v=>exact clip v n
 rw [<- key,<- lo',<- hi'];unfold Builtin.Str.strSliceIndices
 cases lo<;>cases hi<;>simp
theorem GX (x:Str) (lo hi:Option Int):Txt.slice x lo hi=W7 x lo hi:=by
 have afM:=HT.jA x.length 0 (az _) lo;have afN:=HT.jA x.length x.length (Μ _) hi;have core:((Builtin.Str.strSliceIndices lo hi 1 x.length).filterMap (x.cps[·]?))=(x.cps.toList.drop (HT.aK x.length 0 lo)).take (HT.aK x.length x.length hi - HT.aK x.length 0 lo):=by
  rw [UB,List.filterMap_map];generalize HT.aK x.length 0 lo=i;generalize HT.aK x.length x.length hi - i=k;have gen:∀ (l:List Nat) (k:Nat),(ai k).filterMap (fun m=>l[m]?)=l.take k:=by
   intro l k
   induction k with
   | zero=>simp
   | succ k ih =>
    rw [dL,List.filterMap_append,ih];by_cases hk:k<l.length
    ·rw [List.take_succ_eq_append_getElem hk];simp [hk]
    ·have h1:l.take (k+1)=l:=a9 (by omega)
     have h2:l.take k=l:=a9 (by omega);rw [h1,h2];simp [hk]
  have e:((fun j=>x.cps[j]?) ∘ fun k=>i+k)=fun m=>(x.cps.toList.drop i)[m]?:=by
   funext m
   simp [List.getElem?_drop]
  rw [e,gen]
 unfold Txt.slice W7;rw [core]
 split
 ·rename_i h
  simp only [beq_self_eq_true,Bool.true_and,beq_iff_eq] at h;rw [UB,Ε,cE] at h
  have h0:HT.aK x.length 0 lo=0\/x.length=0:=by omega
  have e:(x.cps.toList.drop (HT.aK x.length 0 lo)).take (HT.aK x.length x.length hi - HT.aK x.length 0 lo)=x.cps.toList:=by
   have hl:x.cps.toList.length=x.length:=by simp [Str.length]
   rcases h0 with h0 | h0
   ·rw [h,h0,List.drop_zero,a9 (by omega)]
   ·have:x.cps.toList=[]:=List.eq_nil_of_length_eq_zero (by omega)
    rw [this];simp
  rw [e]
 ·rfl
theorem U1 (x:Str) (lo hi:Option Int):(W7 x lo hi).length<=x.length:=by
 rw [<- GX];exact Txt.slice_le x lo hi
def Ng:V->Option Int->Option Int->Hp->VK->Prop:=fun x lo hi H Q=>∃ z,x = .str z/\z.length<=sizeLine/\Q (.str (W7 z lo hi)) H
section
variable {X:Cx}
theorem GZ:oG X Ng:=by
 intro pins s σ H x v vl vu lo hi sl Q I rx hs pl pu h;obtain ⟨z,rfl,hz,q⟩:=h;obtain ⟨t,rfl⟩:=rx;refine ⟨"str",_,F.slot_str_getitem.lookup,typeIs_str _ _ _,?_⟩;have fin:∀ (l u:Option (Int×Tok)),l.map (·.1)=lo->u.map (·.1)=hi->s.heap.IsSlice sl l u none->Ξ (γ X.prog X.w) X.A (fT (.str z t) (.ref sl)) (EP X pins σ Q) X.xe s:=fun l u el eu hsl=>by
  refine wpAny_getItem_str_slice (l:=l) (u:=u) (st:=none) hsl rfl ?_;have e:(if (((none:Option (Int×Tok)).map (·.1)).getD 1==1&&(slicePicked z l u none).length==z.length)=true then z else ⟨((slicePicked z l u none).filterMap (z.cps[·]?)).toArray⟩)=W7 z lo hi:=by
   rw [<- GX,<- el,<- eu];rfl
  refine post_val_or_str ⟨by rw [e];exact ah (U1 z lo hi) hz,fun t' k=>?_⟩;rw [e];exact ⟨.str (W7 z lo hi),H,I.tok k,⟨t',rfl⟩,q⟩
 obtain ⟨o,ho,hc,hd⟩:=hs
 cases pl with
 | none =>
  cases pu with
  | none=>exact fin none none rfl rfl ⟨o,ho,hc,hd⟩
  | int j tj=>exact fin none (some (j,tj)) rfl rfl ⟨o,ho,hc,hd⟩
 | int i ti =>
  cases pu with
  | none=>exact fin (some (i,ti)) none rfl rfl ⟨o,ho,hc,hd⟩
  | int j tj=>exact fin (some (i,ti)) (some (j,tj)) rfl rfl ⟨o,ho,hc,hd⟩
def Its (x:Str):It:=⟨fun i _=>i<x.length,fun i H v H'=>H'=H/\∃ c,x.cps.toList[i]?=some c/\v = .str ⟨#[c]⟩,fun i _=>x.length<=i⟩
theorem Sw {P:Ο} {w:ε} {K:Κ} {tg:Expr} (x:Str) (t:Tok) (it:Addr):Turn P w K tg (Its x) [it] it (fun i h=>h.IsStrIter it "str_ascii_iterator" x t i\/h.IsStrIter it "str_iterator" x t i) where
 mem:=by simp
 obj:=fun i h st b hb=>by
  have e:b=it:=by simpa using hb
  subst e;rcases st with ⟨o,e,c,d⟩ | ⟨o,e,c,d⟩<;>exact ⟨o,e,fun v z=>by rw [d] at z;cases z⟩
 keep:=fun i h h' st k=>by
  rcases st with ⟨o,e,c⟩ | ⟨o,e,c⟩
  ·exact .inl ⟨o,k it (by simp) o e,c⟩
  ·exact .inr ⟨o,k it (by simp) o e,c⟩
 item:=by
  intro X hP hw hK hc i pins s σ H E I hf st hg;subst hP hw hK;have hi:i<x.cps.size:=hg;have hx:x.cps[i]?=some x.cps[i]:=by simp [hi]
  obtain ⟨f0,f1,f2,f3,f4,f5⟩:=hf it (by simp);have fin:∀ (ty:String) (h':Heap),["enumerate","zip","dict_itemiterator","dict_reverseitemiterator","odict_iterator","itertools.zip_longest","itertools.pairwise"].contains ty=false->h'.IsStrIter it ty x t (i+1)->cp it s.heap h' ->
    (h'.IsStrIter it ty x t (i+1)->(h'.IsStrIter it "str_ascii_iterator" x t (i+1)\/h'.IsStrIter it "str_iterator" x t (i+1))) ->
    ∃ u,some (iE ⟨#[x.cps[i]]⟩ s.toks)=some u/\Ξ (γ X.prog X.w) X.A (fk tg (.ref it) u) (fun _ s2=>∃ y H',Inv X pins σ H' s2/\YA y u/\(Its x).fY i H y H' /\
     (s2.heap.IsStrIter it "str_ascii_iterator" x t (i+1)\/s2.heap.IsStrIter it "str_iterator" x t (i+1))/\∀ b∈[it],H' b=none) E { s with heap:=h',toks:=s.toks+1 }:=fun ty h' hn st' sb hor=>by
   have I1:Inv X pins σ H { s with heap:=h',toks:=s.toks+1 }:=I.turned (t':=s.toks+1) (fun b o hb e=>(sb.2 b hb).trans e) f0 f1 f3 f4 f5;obtain ⟨o,e,c,d⟩:=id st';exact ⟨_,rfl,VQ (s:={ s with heap:=h',toks:=s.toks+1 }) e c d hn ⟨.str ⟨#[x.cps[i]]⟩,H,I1,⟨_,rfl⟩,⟨rfl,x.cps[i],by simp [hi],rfl⟩,hor st',fun b hb=>(hf b hb).1⟩⟩
  rcases st with st | st
  ·exact wpAny_pyNext_ascii_item st hx fun h' st' sb=>fin _ h' (by decide) st' sb .inl
  ·exact wpAny_pyNext_wide_item st hx fun h' st' sb=>fin _ h' (by decide) st' sb .inr
 done:=by
  intro X hP hw hK hc i pins s σ H E I hf st hg;subst hP hw hK;have hi:x.cps.size<=i:=hg;have hx:x.cps[i]?=none:=by simp [hi]
  obtain ⟨f0,f1,f2,f3,f4,f5⟩:=hf it (by simp);rcases st with st | st
  ·exact wpAny_pyNext_ascii_end (I.ok.hd hc) st hx fun h' eb=>⟨rfl,I.turned (t':=s.toks) (fun b o hb e=>eb b o hb e) f0 f1 f3 f4 f5⟩
  ·exact wpAny_pyNext_wide_end (I.ok.hd hc) st hx fun h' eb=>⟨rfl,I.turned (t':=s.toks) (fun b o hb e=>eb b o hb e) f0 f1 f3 f4 f5⟩
 self:=fun A i s Q E st h=>by
  rcases st with st | st
  ·exact wpAny_pyIter_slot st.typeIs F.slot_str_ascii_iterator_iter (c8 F.slot_str_ascii_iterator_iter st.typeIs F.entry_str_ascii_iterator_iter (Ψ ⟨_,rfl,"str_ascii_iterator",_,st.typeIs,F.slot_str_ascii_iterator_next.lookup,h⟩) (F.args_str_ascii_iterator_iter_1 _))
  ·exact wpAny_pyIter_slot st.typeIs F.slot_str_iterator_iter (c8 F.slot_str_iterator_iter st.typeIs F.entry_str_iterator_iter (Ψ ⟨_,rfl,"str_iterator",_,st.typeIs,F.slot_str_iterator_next.lookup,h⟩) (F.args_str_iterator_iter_1 _))
end
section
variable {X:Cx} {tg:Expr}
def wG (tl:TE):TI:=fun σ H R=>tl σ H fun x H1=>∃ z,x = .str z/\R (Its z) H1
theorem G4 {l:Expr} {tl:TE} (hl:PE X l tl):PI X tg l (wG tl):=by
 intro pins s σ H R I h;refine aG (hl pins s σ H _ I h) fun v s1 ⟨x,H1,I1,r1,q1⟩=>?_
 obtain ⟨z,e,q⟩:=q1;subst e;obtain ⟨t,rfl⟩:=r1;refine wpAny_pyIter_strU ?_;refine ⟨s1.heap.objs.size,[s1.heap.objs.size],_,_,H1,rfl,I1.kept (t':=s1.toks) fun b o e=>Η _ e,Sw z t _,?_,fun b hb=>?_,q⟩
 ·unfold strIterType
  split
  ·exact .inl ⟨_,Ω _ rfl,rfl,rfl⟩
  ·exact .inr ⟨_,Ω _ rfl,rfl,rfl⟩
 ·have e:b=s1.heap.objs.size:=by simpa using hb
  subst e;exact I1.dO (Μ _) (I1.hok.fresh (Μ _))
def XC (J:It) (P:Hp->Prop) (xs:List V):Prop:=∀ H,P H->∀ i,(∀ x,xs[i]?=some x->J.go i H/\∀ y H',J.fY i H y H'->H'=H/\y=x)/\(xs.length<=i->J.stop i H)
theorem Sx (z:Str) (P:Hp->Prop):XC (Its z) P (z.cps.toList.map fun c => .str ⟨#[c]⟩):=fun H _ i=>by
 refine ⟨fun x hx=>?_,fun hi=>?_⟩
 ·rw [Ν] at hx
  cases e:z.cps.toList[i]? with
  | none=>rw [e] at hx;simp at hx
  | some c =>
   rw [e] at hx
   have hx':V.str ⟨#[c]⟩=x:=by simpa using hx
   subst hx';have hi:i<z.cps.toList.length:=(Ι.mp e).1;refine ⟨by show i<z.cps.size;simpa using hi,fun y H' ⟨e1,c',e2,e3⟩=>⟨e1,?_⟩⟩;rw [e] at e2
   cases e2
   exact e3
 ·show z.cps.size<=i
  simpa using hi
theorem Sy {K:Κ} {a:Addr} {xs:List V}:XC (lW K a) (fun H=>aq K H a xs) xs:=fun H hq i=>by
 refine ⟨fun x hx=>⟨⟨xs,x,hq,hx⟩,fun y H' ⟨e1,e2⟩=>⟨e1,?_⟩⟩,fun hi=>⟨xs,hq,hi⟩⟩;have:=e2 xs hq;rw [hx] at this
 exact (Λ this).symm
theorem XD {K:Κ} {a:Addr} {xs:List V}:XC (lV K a) (fun H=>ao K H a xs) xs:=fun H hq i=>by
 refine ⟨fun x hx=>⟨⟨xs,x,hq,hx⟩,fun y H' ⟨e1,e2⟩=>⟨e1,?_⟩⟩,fun hi=>⟨xs,hq,hi⟩⟩;have:=e2 xs hq;rw [hx] at this
 exact (Λ this).symm
theorem V9 {lo:Int} {n:Nat} {P:Hp->Prop}:XC (jz lo n) P ((ai n).map fun (i:Nat)=>V.int (lo+i)):=fun H hq i=>by
 refine ⟨fun x hx=>?_,fun hi=>by show n<=i;simpa using hi⟩;have hi:i<n:=by
  have:=(Ι.mp hx).1;simpa using this
 refine ⟨hi,fun y H' ⟨e1,e2⟩=>⟨e1,?_⟩⟩;rw [Ν,ce hi] at hx
 rw [e2];simpa using hx
theorem XC.imp {J:It} {P P':Hp->Prop} {xs:List V} (h:XC J P xs) (hp:∀ H,P' H->P H):XC J P' xs:=fun H q=>h H (hp H q)
theorem wH {J:It} {P:Hp->Prop} {xs:List V} (hJ:XC J P xs) {src:List (Option Nat)} {g:TG} {tt:TT} {te:TE} {σ:St} {H1:Hp} {Q:VK} {D:Addr} (Pv:Nat->List V->St->Hp->Prop)
  (h0:Pv 0 [] (YF src σ) (upd H1 D (.lst []))) (hP:∀ i ys σ' H',Pv i ys σ' H'->P H'/\H' D=some (.lst ys))
  (step:∀ i ys σ' H' x,xs[i]?=some x->Pv i ys σ' H'->g x σ' H' fun σ2 H4=>tt σ2 H4 fun b H5=>if b=true then te σ2 H5 fun y H6=>H6 D=some (.lst ys)/\ys.length<sizeLine/\Pv (i+1) (ys++[y]) σ2 (upd H6 D (.lst (ys++[y]))) else Pv (i+1) ys σ2 H5)
  (fin:∀ ys σ' H',Pv xs.length ys σ' H'->Q (.ref D) H') :
  LC src J g tt te σ H1 Q D:=by
 refine ⟨fun i m ys σ' H'=>m=xs.length - i/\i<=xs.length/\Pv i ys σ' H',⟨xs.length,by simp,az _,h0⟩,?_⟩;rintro i m ys σ' H2 ⟨rfl,hi,p⟩;obtain ⟨hp,hD⟩:=hP i ys σ' H2 p;refine ⟨hD,?_⟩;by_cases hlt:i<xs.length
 ·obtain ⟨go,yl⟩:=(hJ H2 hp i).1 xs[i] (by simp [hlt])
  refine .inr ⟨go,fun ys' σ3 H3=>Pv (i+1) ys' σ3 H3,fun ys' σ3 H3 p'=>⟨xs.length - (i+1),by omega,rfl,hlt,p'⟩,fun x H3 y=>?_⟩;obtain ⟨e1,e2⟩:=yl x H3 y;subst e1 e2;exact step i ys σ' _ _ (by simp [hlt]) p
 ·have e:i=xs.length:=by omega
  subst e;exact .inl ⟨(hJ H2 hp _).2 (Μ _),fin ys σ' H2 p⟩
theorem Ye.aj {H:Hp} {p:Addr} (h:H p=none) (o:HO):Ye H (upd H p o):=fun b u q=>by rw [Yg (Yj q h)];exact q
theorem Ye.aP {H H':Hp} {p:Addr} (h:H p=none) (e:Ye H H') (o:HO):Ye H (upd H' p o):=fun b u q=>by rw [Yg (Yj q h)];exact e b u q
theorem Ye.tup {K:Κ} {H H':Hp} {a:Addr} {xs:List V} (e:Ye H H') (h:aq K H a xs):aq K H' a xs:=by
 rcases h with (h | ⟨o,h⟩) | h
 ·exact .inl (.inl (e _ _ h))
 ·exact .inl (.inr ⟨o,e _ _ h⟩)
 ·exact .inr h
end
section
variable {X:Cx}
theorem G6:∀ {bs:List Bool} {us:List Α},Yw (bs.map V.bl) us->LSm.BoolsAre us bs
 | [],_,h=>by rw [Yw.zero h];exact .nil
 | b::bs,us,h=>by
  have h':Yw (V.bl b::bs.map V.bl) us:=h
  cases h' with
  | cons r t=>cases (show _=i4 b from r);exact .cons b (G6 t)
theorem U2 (hc:X.calm=true):Xv X (.builtin "all") (fun xs H Q=>∃ (p:Addr) (bs:List Bool),xs=[.ref p]/\ao X.K H p (bs.map V.bl)/\Q (.bl (bs.all id)) H):=by
 intro pins s σ H xs us Q I r h;obtain ⟨p,bs,rfl,hq,q⟩:=h;obtain ⟨u,rfl,rx⟩:=X8 r
 cases rx
 obtain ⟨its,r',pl,hz⟩:=I.list hq;have hb:=G6 r';have hl:=pl.isList;have hlt:p<s.heap.objs.size:=by obtain ⟨_,e,_⟩:=hl;exact Ρ e
 refine call_all_walk (wpAny_pyIter_list hl ?_);refine ⟨s.heap.objs.size,[s.heap.objs.size,p],[s.heap.objs.size],its.toArray.size,_,_,fun i=>(bs[i]?).getD true,rfl,Walks.list (A:=X.A.in1) (I.ok.hd hc) _ p (υ hlt) its.toArray,
  ⟨⟨_,Ω _ rfl,rfl,rfl⟩,hl.push _⟩,fun i v s' Q' E' hP hQ=>?_,fun h' tk hk=>?_⟩
 ·obtain ⟨b,e,rfl⟩:=hb.get i v (by simpa using hP)
  simp only [e,Option.getD_some] at hQ;exact d4 hQ
 ·have e:((ai its.toArray.size).all fun i=>(bs[i]?).getD true)=bs.all id:=by
   rw [ν,hb.length];exact LSm.range_all bs
  rw [e];exact ⟨.bl _,H,I.kept (t':=tk) (LSm.kept_iter hk),rfl,q⟩
theorem G7:∀ {ys:List Str} {us:List Α},Yw (ys.map V.str) us->StrsAre us ys
 | [],_,h=>by rw [Yw.zero h];exact .nil
 | y::ys,us,h=>by
  have h':Yw (V.str y::ys.map V.str) us:=h
  cases h' with
  | cons r t=>obtain ⟨t',rfl⟩:=r;exact .cons y t' (G7 t)
def rJoin (K:Κ):V->List V->Hp->VK->Prop:=fun x vs H Q=>∃ (z:Str) (p:Addr) (ys:List Str),x = .str z/\vs=[.ref p]/\ao K H p (ys.map V.str)/\(ys.map (·.length)).sum+ys.length*z.length<=16777216/\Q (.str (Txt.join z ys)) H
theorem SJ:jB X "str.join" (rJoin X.K):=by
 intro pins s σ H x vs v us Q I rx rv h;obtain ⟨z,p,ys,rfl,rfl,hq,hl,q⟩:=h;obtain ⟨t,rfl⟩:=rx;obtain ⟨u,rfl,ru⟩:=rv.one
 cases ru
 obtain ⟨its,r,pl,hz⟩:=I.list hq;exact join_list pl.isList (by simpa using G7 r) hl fun t' k=>⟨.str _,H,I.tok k,⟨t',rfl⟩,q⟩
def sJ:V->Option Α
 | .ty n=>some (.type n)
 | .ref a=>some (.ref a)
 | _=>none
inductive Nh (K:Κ) (t cv:Α) (Q:Bool->Prop):Prop
 | mk (b:Bool) (h3:W.kitOne K t cv=some b) (q:Q b)
inductive SM (K:Κ) (H:Hp) (x c:V) (Q:Bool->Prop):Prop
 | mk (cv:Α) (h1:sJ c=some cv) (t:Α) (h2:cC K H x t) (q:Nh K t cv Q)
def wI (K:Κ):List V->Hp->VK->Prop:=fun xs H Q=>k2 xs fun x c=>SM K H x c fun b=>Q (.bl b) H
theorem YH:Xv X (.builtin "isinstance") (wI X.K):=by
 intro pins s σ H xs us Q I r h;obtain ⟨x,c,rfl,cv,ec,t,ty,b,e,q⟩:=MF h;obtain ⟨u,w',rfl,ru,eF⟩:=vals2 r;have ew:w'=cv:=by
  cases c with
  | ty n=>cases (show w'=eQ n from eF);simpa [sJ] using ec
  | ref a=>cases (show w'=ac a from eF);simpa [sJ] using ec
  | _=>simp [sJ] at ec
 subst ew;exact Rh I ru ty e fun tk=>⟨.bl b,H,I.tok tk,rfl,q⟩
end
section
variable {prog:Ο} {w:ε} {A:τ} {E:Α->Δ->Prop} {s:Δ}
theorem Ug {it t:Addr} {i:Nat} {items:Array Α} {Q:Α->Δ->Prop} (hh:A.handled=none) (hit:s.heap.IsTupleIter it t i) (ht:s.heap.IsTuple t items) (hx:items[i]?=none)
  (hE:∀ h' e,Heap.ExtBut it s.heap h'->(∃ o,h'.get? e=some o/\o.cls = .type "StopIteration")->E (.ref e) { s with heap:=h' }):Ξ (γ prog w) A (br (.ref it)) Q E s:=by
 obtain ⟨o,ho,hc,hd⟩:=id hit;obtain ⟨ol,hol,_,nl,hdl⟩:=ht;unfold br;refine Θ (df (name:=bp "__next__") hit.typeIs F.slot_tuple_iterator_next (c8 F.slot_tuple_iterator_next hit.typeIs F.entry_tuple_iterator_next ?_ (F.args_tuple_iterator_next_1 _)))
 show Ξ _ _ (field (.ref it) 0 >>= _) _ _ s
 refine Θ (cr ho hd (x := .ref t) rfl ?_)
 show Ξ _ _ (if (ac t==bE)=true then _ else _) _ _ s
 rw [if_neg (show ¬ ((ac t==bE)=true) from ζ)]
 show Ξ _ _ (field (.ref it) 1 >>= _) _ _ s
 refine Θ (cr ho hd (x := .int i 0) rfl ?_)
 show Ξ _ _ (seqItems? (.ref t) >>= _) _ _ s
 refine Θ (eL hol hdl ?_);simp only [d6,hx];refine Θ (iX (Θ (wpAny_setField ho hd (by simp) ?_)))
 show Ξ _ _ (newExc (.type "StopIteration") [] >>= _) _ _ _
 refine Θ ?_;simp only [newExc,newTuple];refine Θ (b9 ?_ (by size_fits));refine Θ (m:=iA _ _) (wpAny_of_eq (a:=bE) (by first | rfl | (simp only [iA];rfl)) ?_);refine b9 ?_ (by size_fits);simp only [raiseNew];refine Θ (wpAny_handled ?_)
 first | rw [show A.in1.handled=none from hh] | rw [hh]
 refine Θ (Ψ (wpAny_throw ?_));exact hE _ _ (((Heap.SameBut.update ..).extBut.push _).push _) ⟨_,Ω _ rfl,rfl⟩
end
abbrev sO (h:Heap) (o1 o2:Obj):Heap:=((h.push o1).push o2)
abbrev sS (h:Heap) (o1 o2:Obj):Heap:=(sO h o1 o2).push { cls := .type "tuple",data := .seq #[.ref h.objs.size,.ref (h.push o1).objs.size] }
abbrev sU (h:Heap) (o1 o2:Obj):Heap:=(sS h o1 o2).push { cls := .type "tuple",data := .seq #[.none,.none] }
abbrev jD (h:Heap) (o1 o2:Obj):Heap:=(sU h o1 o2).push { cls := .type "zip",data := .fields #[.none,.bool false,.bool false,.ref (sO h o1 o2).objs.size,.ref (sS h o1 o2).objs.size] }
def Vf (h:Heap) (v:Α) (o:Obj):Prop:=∀ (prog:Ο) (w:ε) (A:τ) (E:Α->Δ->Prop) (s:Δ) (Q:Α->Δ->Prop),(∀ b ob,h.get? b=some ob->s.heap.get? b=some ob) ->
 Q (.ref s.heap.objs.size) { s with heap:=s.heap.push o }->Ξ (γ prog w) A (pyIter v) Q E s
theorem Vt {h:Heap} {t:Addr} {items:Array Α} (ht:h.IsTuple t items):Vf h (.ref t) { cls := .type "tuple_iterator",data := .fields #[.ref t,.int 0 0] }:=fun prog w A E s Q k q=>by
 obtain ⟨o,e,r⟩:=ht;exact wpAny_pyIter_tuple (items:=items) ⟨o,k _ _ e,r⟩ q
theorem SN (v1 v2:Α) (o1 o2:Obj) :
  Meets (Builtin.«zip.__new__» ⟨[.type "zip",v1,v2],[]⟩) (fun _ R s=>Vf s.heap v1 o1/\Vf s.heap v2 o2/\R (.ok (.ret (.ref (sU s.heap o1 o2).objs.size))) { s with heap:=jD s.heap o1 o2 }) :=
 .of_wp fun prog w A R s h=>by
  obtain ⟨hp,g,d,tk,os⟩:=s;obtain ⟨h1,h2,h⟩:=h;have hsub:=sub_zip;have p1:∀ {A':τ} {E:Α->Δ->Prop} {Q:Α->Δ->Prop},Q (.ref hp.objs.size) ⟨hp.push o1,g,d,tk,os⟩->Ξ (γ prog w) A' (pyIter v1) Q E ⟨hp,g,d,tk,os⟩:=fun q=>h1 prog w _ _ ⟨hp,g,d,tk,os⟩ _ (fun _ _ e=>e) q
  have p2:∀ {A':τ} {E:Α->Δ->Prop} {Q:Α->Δ->Prop},Q (.ref (hp.push o1).objs.size) ⟨(hp.push o1).push o2,g,d,tk,os⟩->Ξ (γ prog w) A' (pyIter v2) Q E ⟨hp.push o1,g,d,tk,os⟩:=fun q=>h2 prog w _ _ ⟨hp.push o1,g,d,tk,os⟩ _ (fun _ _ e=>Η _ e) q
  wp_walk using p1,p2
  exact ⟨_,rfl,h⟩
section
variable {prog:Ο} {w:ε} {A:τ} {E:Α->Δ->Prop} {s:Δ}
theorem SQ {v1 v2:Α} {o1 o2:Obj} {Q:Α->Δ->Prop} (p1:Vf s.heap v1 o1) (p2:Vf s.heap v2 o2) (f1:o1.isFreed=false) (f2:o2.isFreed=false)
  (h:∀ h',IsZip h' (s.heap.objs.size+4) (s.heap.objs.size+2) (s.heap.objs.size+3) .none->IsPair h' (s.heap.objs.size+2) (.ref s.heap.objs.size) (.ref (s.heap.objs.size+1))->IsPair h' (s.heap.objs.size+3) .none .none ->
   h'.get? s.heap.objs.size=some o1->h'.get? (s.heap.objs.size+1)=some o2->h'.objs.size=s.heap.objs.size+5->(∀ c o,s.heap.get? c=some o->h'.get? c=some o)->Q (.ref (s.heap.objs.size+4)) { s with heap:=h' }) :
  Ξ (γ prog w) A (call (.type "zip") [v1,v2]) Q E s:=by
 refine callType_new F.called_zip (by decide) (F.typeCall_zip_2 _ _) (F.newCall_zip_2 _ _) (fun obj=>F.args_object_init_3 obj _ _) F.entry_zip_new (SN v1 v2 o1 o2) ⟨p1,p2,?_⟩;have z1:(s.heap.push o1).objs.size=s.heap.objs.size+1:=di ..;have z2:(sO s.heap o1 o2).objs.size=s.heap.objs.size+2:=by rw [di,z1]
 have z3:(sS s.heap o1 o2).objs.size=s.heap.objs.size+3:=by rw [di,z2]
 have z4:(sU s.heap o1 o2).objs.size=s.heap.objs.size+4:=by rw [di,z3]
 have z5:(jD s.heap o1 o2).objs.size=s.heap.objs.size+5:=by rw [di,z4]
 have g5:(jD s.heap o1 o2).get? (sU s.heap o1 o2).objs.size=some _:=Ω _ rfl;have g4:(jD s.heap o1 o2).get? (sS s.heap o1 o2).objs.size=some _:=Η _ (Ω _ rfl);have g3:(jD s.heap o1 o2).get? (sO s.heap o1 o2).objs.size=some _:=Η _ (Η _ (Ω _ rfl));have g2:(jD s.heap o1 o2).get? (s.heap.push o1).objs.size=some o2:=Η _ (Η _ (Η _ (Ω _ f2)));have g1:(jD s.heap o1 o2).get? s.heap.objs.size=some o1:=Η _ (Η _ (Η _ (Η _ (Ω _ f1))))
 show _/\_
 rw [z2,z3,z4] at g5
 rw [z1,z2] at g3
 rw [z3] at g4
 rw [z1] at g2
 rw [z4];exact ⟨⟨_,g5,rfl⟩,h _ g5 g3 g4 g1 g2 z5 fun c o x=>Η _ (Η _ (Η _ (Η _ (Η _ x))))⟩
end
section
variable {X:Cx} {pins:List (Addr×Obj)} {σ:St} {H:Hp} {s:Δ} {h':Heap}
theorem Inv.vp {t':Nat} {ch:List Addr} (I:Inv X pins σ H s) (k:∀ b o,b∉ch->s.heap.get? b=some o->h'.get? b=some o) (hf:∀ b∈ch,X6 X pins H b):Inv X pins σ H { s with heap:=h',toks:=t' }:=by
 have eN:∀ b u,H b=some u->b∉ch:=fun b u e z=>by rw [(hf b z).1] at e;cases e
 refine I.step (g':=s.gens) (d':=s.drawn) (ch:=ch) (fun b hb=>?_) (fun b o _ _ hc e _=>k b o hc e) (fun b o _ _ hc e _=>⟨o.slots,k b o hc e⟩) (fun _ _ _ _ n=>n)
  (fun b o hc e=>⟨o,k b o hc e⟩) (fun _ _ e=>e) (fun _ _ _ e=>e) (fun b ps e=>⟨#[],by rw [e];simp⟩) (fun m hm=>?_) (fun b u e=>?_) I.bare
 ·obtain ⟨f0,f1,f2,f3,f4,f5⟩:=hf b hb
  exact ⟨f3,f1,f4,f5⟩
 ·obtain ⟨o,es,ep,ho,r⟩:=hm
  exact ⟨o,es,ep,k _ o (fun z=>(hf _ z).2.1 rfl) ho,r⟩
 ·refine (I.hok b u e).stay (fun c v hc q=>k c v ?_ q) (fun _ q=>q) fun _ _ q=>q
  rcases hc with z | z
  ·rw [z];exact eN b u e
  ·exact eN c _ z
theorem Inv.mj {t':Nat} {ch:List Addr} {T:Addr} {vs:List V} (I:Inv X pins σ H s) (k:∀ b o,b∉ch->s.heap.get? b=some o->h'.get? b=some o) (hf:∀ b∈ch,X6 X pins H b) (hT:s.heap.objs.size<=T)
  (new:YN X.prog X.w (upd H T (.tup vs)) h' T (.tup vs)):Inv X pins σ (upd H T (.tup vs)) { s with heap:=h',toks:=t' }:=by
 have hn:H T=none:=I.hok.fresh hT;have eN:∀ b u,H b=some u->b∉ch:=fun b u e z=>by rw [(hf b z).1] at e;cases e
 have nT:∀ b o,s.heap.get? b=some o->b≠T:=fun b o e z=>absurd (Ρ e) (by rw [z];exact Nat.not_lt.mpr hT)
 have up:∀ b u,H b=some u->upd H T (.tup vs) b=some u:=fun b u e=>by rw [Yg (Yj e hn)];exact e
 refine I.step (g':=s.gens) (d':=s.drawn) (ch:=ch) (fun b hb=>?_) (fun b o _ _ hc e _=>k b o hc e) (fun b o _ _ hc e _=>⟨o.slots,k b o hc e⟩) (fun b o _ e n=>by rw [Yg (nT b o e)];exact n)
  (fun b o hc e=>⟨o,k b o hc e⟩) (fun b xs e=>up b _ e) (fun b o u e=>up b _ e) (fun b ps e=>⟨#[],by rw [up b _ e];simp⟩) (fun m hm=>?_) (fun b u e=>?_) I.bare
 ·obtain ⟨f0,f1,f2,f3,f4,f5⟩:=hf b hb
  exact ⟨f3,f1,f4,f5⟩
 ·obtain ⟨o,es,ep,ho,r⟩:=hm
  exact ⟨o,es,ep,k _ o (fun z=>(hf _ z).2.1 rfl) ho,r⟩
 ·by_cases hb:b=T
  ·subst hb;rw [Yb] at e;cases e;exact new
  ·rw [Yg hb] at e
   refine (I.hok b u e).stay (fun c v hc q=>k c v ?_ q) (fun c q=>up c _ q) fun c xs q=>up c _ q
   rcases hc with z | z
   ·rw [z];exact eN b u e
   ·exact eN c _ z
end
section
variable {X:Cx} {elts:List Expr} {kk:Nat} {tpos:Pos}
theorem VU {J:It} {P:Hp->Prop} {xs:List V} (hJ:XC J P xs) {src:List (Option Nat)} {g:TG} {te:TE} {σ:St} {H1:Hp} {Q:VK} {D:Addr} (Pv:Nat->List V->St->Hp->Prop)
  (h0:Pv 0 [] (YF src σ) (upd H1 D (.lst []))) (hP:∀ i ys σ' H',Pv i ys σ' H'->P H'/\H' D=some (.lst ys))
  (mono:∀ x σ H Q Q',(∀ σ' H',Q σ' H'->Q' σ' H')->g x σ H Q->g x σ H Q')
  (step:∀ i ys σ' H' x,xs[i]?=some x->Pv i ys σ' H'->g x σ' H' fun σ2 H4=>te σ2 H4 fun y H6=>H6 D=some (.lst ys)/\ys.length<sizeLine/\Pv (i+1) (ys++[y]) σ2 (upd H6 D (.lst (ys++[y]))))
  (fin:∀ ys σ' H',Pv xs.length ys σ' H'->Q (.ref D) H'):LC src J g XI te σ H1 Q D :=
 wH hJ Pv h0 hP (fun i ys σ' H' x hx p=>by
  refine mono _ _ _ _ _ ?_ (step i ys σ' H' x hx p);intro σ2 H4 q;unfold XI;dsimp only;rw [if_pos rfl];exact q) fin
theorem XN (i:Nat):∀ x σ H Q Q',(∀ σ' H',Q σ' H'->Q' σ' H')->YE i x σ H Q->YE i x σ H Q':=fun _ _ _ _ _ h q=>h _ _ q
end
structure Gx where
 P:Ο
 w:ε
 K:Κ
 mg:Str->Option Α
 base:Heap
def Cx.gx (X:Cx):Gx:=⟨X.prog,X.w,X.K,X.mg,X.base⟩
def Gx.Raw (g:Gx) (x qual:Str) (st:Stmt) (ps:List Str):Prop:=∃ f fd,dU g.K x qual st f fd/\Xq g.K fd ps []/\g.mg x=some (.ref f)
def Gx.Fn (g:Gx) (k:Nat) (x:Str) (ps:List Str) (sp:Sp):Prop:=∃ f fd,aY g.P g.w g.K g.mg g.base bV k f fd ps sp/\Xq g.K fd ps []/\ef g.K (.ref f)=true/\g.mg x=some (.ref f)
def Gx.bC (g:Gx) (C:Addr) (m qual:Str) (st:Stmt) (ps:List Str):Prop:=∃ f fd,dU g.K m qual st f fd/\Xq g.K fd ps []/\Meth g.K C m f
def Gx.Me (g:Gx) (k:Nat) (C:Addr) (m:Str) (ps:List Str) (sp:Sp):Prop:=∃ f fd,aY g.P g.w g.K g.mg g.base bV k f fd ps sp/\Xq g.K fd ps []/\Meth g.K C m f
def Gx.dz (g:Gx) (x:Str) (C:Addr) (qual:Str) (st:Stmt) (ps:List Str):Prop:=∃ f fd,dU g.K "__init__" qual st f fd/\Xq g.K fd ps []/\Mk g.K C f/\g.mg x=some (.ref C)
def Gx.Ma (g:Gx) (k:Nat) (x:Str) (C:Addr) (ps:List Str) (sp:Sp):Prop:=∃ f fd,aY g.P g.w g.K g.mg g.base bV k f fd ps sp/\Xq g.K fd ps []/\Mk g.K C f/\g.mg x=some (.ref C)
abbrev Gx.cx (g:Gx) (N:List Str) (qual:Str) (st:Stmt) (f:Addr) (cdv:Α) (A:τ) (outer:List Env) (s:Δ) (H:Hp) (E:XK):Cx:=(Wu bV g.P g.w g.K g.mg g.base N qual (Yi st) f cdv A outer s H E).dI
def Uh (g:Gx) (k:Nat) (N:List Str) (qual:Str) (st:Stmt) (sp:Sp):Prop:=∀ (f:Addr) (cdv:Α) (A:τ) (outer:List Env) (s:Δ) (H:Hp) (vs:List V) (Q:VK) (E:XK),aM k (g.cx N qual st f cdv A outer s H E).A->sp vs H Q E ->
 ∃ t,cW (g.cx N qual st f cdv A outer s H E) (YS st) t/\t { nx:=fun _ H'=>Q .non H',rt:=Q } (Xz N vs) H
section
variable {g:Gx} {k:Nat} {x qual m:Str} {st:Stmt} {N ps:List Str} {sp:Sp} {C:Addr}
theorem Gx.Raw.fn (R:g.Raw x qual st ps) (S:ak N ps (Yi st)) (len:∀ vs H Q E,sp vs H Q E->vs.length=ps.length) (b:Uh g k N qual st sp):g.Fn (k+1) x ps sp:=by
 obtain ⟨f,fd,F,bd,hm⟩:=R;exact ⟨f,fd,F.ok S len fun cdv A outer s H vs Q E hr h=>b f cdv A outer s H vs Q E hr h,bd,F.kp,hm⟩
theorem Gx.bC.me (R:g.bC C m qual st ps) (S:ak N ps (Yi st)) (len:∀ vs H Q E,sp vs H Q E->vs.length=ps.length) (b:Uh g k N qual st sp):g.Me (k+1) C m ps sp:=by
 obtain ⟨f,fd,F,bd,hm⟩:=R;exact ⟨f,fd,F.ok S len fun cdv A outer s H vs Q E hr h=>b f cdv A outer s H vs Q E hr h,bd,hm⟩
theorem Gx.dz.ma (R:g.dz x C qual st ps) (S:ak N ps (Yi st)) (len:∀ vs H Q E,sp vs H Q E->vs.length=ps.length) (b:Uh g k N qual st sp):g.Ma (k+1) x C ps sp:=by
 obtain ⟨f,fd,F,bd,hm,hg⟩:=R;exact ⟨f,fd,F.ok S len fun cdv A outer s H vs Q E hr h=>b f cdv A outer s H vs Q E hr h,bd,hm,hg⟩
theorem Gx.Fn.mono {j:Nat} (F:g.Fn j x ps sp) (h:j<=k):g.Fn k x ps sp:=by
 obtain ⟨f,fd,F,r⟩:=F;exact ⟨f,fd,F.mono h,r⟩
theorem Gx.Me.mono {j:Nat} (F:g.Me j C m ps sp) (h:j<=k):g.Me k C m ps sp:=by
 obtain ⟨f,fd,F,r⟩:=F;exact ⟨f,fd,F.mono h,r⟩
theorem Gx.Raw.none (R:g.Raw x qual st ps) (no:∀ vs H Q E,¬ sp vs H Q E):g.Fn k x ps sp:=by
 obtain ⟨f,fd,F,bd,hm⟩:=R;exact ⟨f,fd,⟨fun vs H Q E h=>absurd h (no vs H Q E),fun A outer s H args us vs Q E _ _ _ _ h=>absurd h (no vs H Q E)⟩,bd,F.kp,hm⟩
theorem Gx.bC.none (R:g.bC C m qual st ps) (no:∀ vs H Q E,¬ sp vs H Q E):g.Me k C m ps sp:=by
 obtain ⟨f,fd,F,bd,hm⟩:=R;exact ⟨f,fd,⟨fun vs H Q E h=>absurd h (no vs H Q E),fun A outer s H args us vs Q E _ _ _ _ h=>absurd h (no vs H Q E)⟩,bd,hm⟩
end
section
variable {g:Gx} {X:Cx} {k j:Nat} {x m:Str} {ps:List Str} {sp:Sp} {C:Addr} {e o:Expr} {es:List Expr} {t:TA} {ta:TE} {p pos apos:Pos}
theorem Ys (F:g.Fn j x ps sp) (hr:aM k X.A) (ha:PA X (e::es) t) (hj:j<=k) (hX:X.gx=g) (hg:Gl X x) (hdb:(x==("__debug__":Str))=false)
  (he:Φ (e::es) X.env=(false,eval e X.env)::Φ es X.env) (hpl:(bv pos (Φ es X.env)).any (·.1)=false):PE X (.Call (.Name x p) (e::es) [] pos) (Vl sp [] E0 t):=by
 subst hX;obtain ⟨f,fd,F,b,kp,hm⟩:=F;exact Ge F (hr.mono hj) hg hm kp b .nil VT ha hdb he hpl
theorem Wb {pl:Sem Bool} (F:g.Me j C m ps sp) (c:Cls g.K C) (hr:aM k X.A) (ho:PE X o ta) (ha:PA X (e::es) t) (hj:j<=k) (hX:X.gx=g)
  (hst:Φ (e::es) X.env=(false,eval e X.env)::Φ es X.env) (hpl:(bv pos (Φ es X.env)).any (·.1)=false)
  (ht:eval (.Call (.Attribute o m apos) (e::es) [] pos) X.env=(do
   let ov <- eval o X.env
   standAt apos.atName
   let (f,first) <- holding [ov] (getMethod ov m pl)
   callWith pos f first (bv pos (Φ (e::es) X.env)) (ir pos (e9 [] X.env)))):PE X (.Call (.Attribute o m apos) (e::es) [] pos) (QU C m sp [] E0 ta t):=by
 subst hX;obtain ⟨f,fd,F,b,hm⟩:=F;exact Rn ho c hm F (hr.mono hj) b .nil VT ha hst hpl ht
theorem QW (F:g.Ma j x C ps sp) (hr:aM k X.A) (ha:PA X (e::es) t) (hj:j+1<=k) (hX:X.gx=g) (hg:Gl X x) (hdb:(x==("__debug__":Str))=false)
  (he:Φ (e::es) X.env=(false,eval e X.env)::Φ es X.env) (hpl:(bv pos (Φ es X.env)).any (·.1)=false):PE X (.Call (.Name x p) (e::es) [] pos) (QV C sp [] E0 t):=by
 subst hX;obtain ⟨f,fd,F,b,M,hm⟩:=F;exact Rp M F (hr.mono hj) hg hm b .nil VT ha hdb he hpl
theorem YG {id:String} {r:List V->Hp->VK->Prop} (hm:g.mg x=none) (hc:Xv X (.builtin id) r) (ha:PA X (e::es) t) (hv:dy x=some (.builtin id)) (hX:X.gx=g) (hg:Gl X x) (hn:x≠"__name__") (hdb:(x==("__debug__":Str))=false)
  (he:Φ (e::es) X.env=(false,eval e X.env)::Φ es X.env) (hpl:(bv pos (Φ es X.env)).any (·.1)=false):PE X (.Call (.Name x p) (e::es) [] pos) (lY r t):=by
 subst hX;exact Rq hc hg hm hv ha hn hdb he hpl
theorem Wp {T:String} {r:List V->Hp->VK->Prop} (hm:g.mg x=none) (hc:Xv X (.type T) r) (ha:PA X (e::es) t) (hv:dy x=some (.type T)) (hX:X.gx=g) (hg:Gl X x) (hn:x≠"__name__") (hdb:(x==("__debug__":Str))=false)
  (he:Φ (e::es) X.env=(false,eval e X.env)::Φ es X.env) (hpl:(bv pos (Φ es X.env)).any (·.1)=false):PE X (.Call (.Name x p) (e::es) [] pos) (lY r t):=by
 subst hX;exact Rr hc hg hm hv ha hn hdb he hpl
theorem Xk {T:String} (hm:g.mg x=none) (hv:dy x=some (.type T)) (hX:X.gx=g) (hg:Gl X x) (hn:x≠"__name__") (hdb:(x==("__debug__":Str))=false):PE X (.Name x pos) (tC (.ty T)):=by
 subst hX;exact O7 hg hm hv rfl hn hdb
end
def S (l:List Nat):Str:=⟨l.toArray⟩
theorem XU (l:List Nat):(S l).cps.toList=l:=by simp [S]
theorem XO (l:List Nat):(S l).length=l.length:=by simp [S,Str.length]
theorem wJ (a b:List Nat):S a++S b=S (a++b):=by
 show Str.append (S a) (S b)=S (a++b)
 simp [Str.append,S]
theorem SX (l:List Nat) (i:Nat):W7 (S l) (some (i:Int)) none=S (l.drop i):=by
 unfold W7;rw [XU,XO,HT.c7,HT.dZ]
 show S _=S _
 congr 1
 by_cases h:i<=l.length
 ·rw [fm h,a9 (by simp)]
 ·rw [Nat.min_eq_right (by omega),List.drop_eq_nil_of_le (Μ _),List.drop_eq_nil_of_le (by omega)]
  simp
theorem S5 (l:List Nat) (j:Nat):W7 (S l) none (some (j:Int))=S (l.take j):=by
 unfold W7;rw [XU,XO,HT.c7,HT.dZ]
 show S _=S _
 congr 1
 simp only [List.drop_zero,Nat.sub_zero];by_cases h:j<=l.length
 ·rw [fm h]
 ·rw [Nat.min_eq_right (by omega),a9 (by omega),a9 (by omega)]
def QX (s:List Nat):List (List Nat)->List Nat
 | []=>[]
 | [x]=>x
 | x::y::r=>x++s++QX s (y::r)
theorem S6 (s:List Nat):∀ ys:List (List Nat),Txt.join (S s) (ys.map S)=S (QX s ys):=fun ys=>by
 have e:Txt.join (S s) (ys.map S)=Str.join (S s) (ys.map S):=eq_of_beq (join_plain_closes _ _);rw [e]
 induction ys with
 | nil=>rfl
 | cons x r ih =>
  cases r with
  | nil=>rfl
  | cons y r =>
   have ih':=ih (eq_of_beq (join_plain_closes _ _))
   show S x++S s++Str.join (S s) ((y::r).map S)=_
   rw [ih',wJ,wJ];rfl
section
variable {K:Κ} {h:Heap} {mg:Str->Option Α} {P:Ο} {w:ε} {base:Heap} {f C:Addr} {x qual m:Str} {st:Stmt} {ps:List Str} {oc kV dc pm cd ct:Α} {od an:Option Addr} {sl:Array (Option Α)}
theorem YM (X:K.In h) (G:h.Ns ba mg) (ps:List Str)
  (a:i8 K ba x=some (some (.ref f))) (l:K.lookup f=some ⟨oc,od,.func (c5 x x (Y4 st) (YS st) (Yi st) .none kV dc pm an cd ct),sl⟩) (c:gf K cd x=true) (k:ef K (.ref f)=true)
  (b:∀ (kV doc pm:Α) (an:Option Addr) (cdv ct:Α) (us:List Α),us.length=ps.length->fo (c5 x x (Y4 st) (YS st) (Yi st) .none kV doc pm an cdv ct) ⟨us,[]⟩=pure (ps.zip us)) :
  ∀ P w base,(Gx.mk P w K mg base).Raw x x st ps:=fun P w base =>
 have F:=Vd (st:=st) l c k
 ⟨f,_,F,F.binds b,iO X G a⟩
theorem XZ (X:K.In h) (G:h.Ns ba mg) (ps:List Str)
  (a:PySem.W.findIn K (.ref C) m=some (some (.ref f))) (i:PySem.W.isFn K (.ref f)=true) (l:K.lookup f=some ⟨oc,od,.func (c5 m qual (Y4 st) (YS st) (Yi st) .none kV dc pm an cd ct),sl⟩) (c:gf K cd qual=true) (k:ef K (.ref f)=true)
  (b:∀ (kV doc pm:Α) (an:Option Addr) (cdv ct:Α) (us:List Α),us.length=ps.length->fo (c5 m qual (Y4 st) (YS st) (Yi st) .none kV doc pm an cdv ct) ⟨us,[]⟩=pure (ps.zip us)) :
  ∀ P w base,(Gx.mk P w K mg base).bC C m qual st ps:=fun P w base =>
 have F:=Vd (st:=st) l c k
 ⟨f,_,F,F.binds b,⟨a,i,k⟩⟩
theorem G8 (X:K.In h) (G:h.Ns ba mg) (ps:List Str) (aC:i8 K ba x=some (some (.ref C))) (mk:PySem.W.makesIn K C=true) (kc:ef K (.ref C)=true)
  (a:PySem.W.findIn K (.ref C) "__init__"=some (some (.ref f))) (i:PySem.W.isFn K (.ref f)=true) (l:K.lookup f=some ⟨oc,od,.func (c5 "__init__" qual (Y4 st) (YS st) (Yi st) .none kV dc pm an cd ct),sl⟩) (c:gf K cd qual=true) (k:ef K (.ref f)=true)
  (b:∀ (kV doc pm:Α) (an:Option Addr) (cdv ct:Α) (us:List Α),us.length=ps.length->fo (c5 "__init__" qual (Y4 st) (YS st) (Yi st) .none kV doc pm an cdv ct) ⟨us,[]⟩=pure (ps.zip us)) :
  ∀ P w base,(Gx.mk P w K mg base).dz x C qual st ps:=fun P w base =>
 have F:=Vd (st:=st) l c k
 ⟨f,_,F,F.binds b,⟨mk,a,i,kc⟩,iO X G aC⟩
end
def G9 (K:Κ) (mg:Str->Option Α) (st:Stmt) (x n:Str):Prop:=∃ f fd,dU K n n st f fd/\(∀ (s:Δ) (u:Α),BindsTo s fd ⟨[u],[]⟩ [(x,u)])/\mg n=some (.ref f)
theorem S7 {K:Κ} {h:Heap} {mg:Str->Option Α} {f:Addr} {x n:Str} {st:Stmt} {oc kV dc pm cd ct:Α} {od an:Option Addr} {sl:Array (Option Α)} (X:K.In h) (G:h.Ns ba mg)
  (a:W.nsIn K ba n=some (some (.ref f))) (l:K.lookup f=some ⟨oc,od,.func (c5 n n (Y4 st) (YS st) (Yi st) .none kV dc pm an cd ct),sl⟩) (c:gf K cd n=true) (k:ef K (.ref f)=true)
  (b:∀ (kV doc pm:Α) (an:Option Addr) (cdv ct:Α) (s:Δ) (u:Α),BindsTo s (c5 n n (Y4 st) (YS st) (Yi st) .none kV doc pm an cdv ct) ⟨[u],[]⟩ [(x,u)]):G9 K mg st x n :=
 ⟨f,_,Vd (st:=st) l c k,b kV dc pm an cd ct,W.mg_of X G a⟩
section
variable {X:Cx}
theorem Hf {a:Int} {m:Nat} (h:a.natAbs<2^m):fh a<=m:=by
 unfold fh
 split
 ·omega
 ·rename_i h0
  have h0:a.natAbs≠0:=by simpa using h0
  have:=(Nat.log2_lt h0).mpr h;omega
def QY (i j:Int):Prop:=∃ m n:Nat,i.natAbs<2^m/\j.natAbs<2^n/\m+n<=100000000
theorem QY.ok {i j:Int} (h:QY i j):IntMulOk i j:=by
 obtain ⟨m,n,h1,h2,h3⟩:=h;exact IntMulOk.of_le (Hf h1) (Hf h2) (by omega)
def Hg (i j:Int):Prop:=0<j/\j.natAbs<2^9000
theorem Xt:bH X (fq .FloorDiv) (rI Hg fun i j => .int (i / j)):=rP fun i j _ _ _ _ _ hc q=>by
 have h1:(0:Int)<j:=hc.1;have h2:=hc.2;have h3:j.natAbs≠0:=by omega
 exact floordiv_int (by omega) (by rw [Int.fdiv_eq_ediv_of_nonneg i (by omega)];exact q) (.inl (PyProof.noPylong_of_log2 ((Nat.log2_lt h3).mpr h2)))
theorem Xm {j:Int} (h:0<j) (h2:j<1073741824) {i:Int}:Hg i j:=⟨h,ρ (show j.natAbs<2^30 by omega) (Nat.pow_le_pow_right (by decide) (by decide))⟩
end
theorem Hh {CX:dh} {P:Ο} {w:ε} {K:Κ} {mg:Str->Option Α} {base:Heap} {N:List Str} {qual:Str} {scope:cw} {f:Addr} {cd:Α} {A:τ} {outer:List Env} {s:Δ} {H:Hp} {E:XK} :
  (Wu CX P w K mg base N qual scope f cd A outer s H E).K=K:=rfl
theorem Hi {X:Cx}:X.dI.K=X.K:=rfl
section
variable {g:TG} {tb:TS} {D:Ends} {σ:St} {H:Hp}
theorem Ua {ta:TA} {n:Nat} (Pv:Nat->St->Hp->Prop) (ha:∀ R:List V->Hp->Prop,R [.int n] H->ta σ H R) (hn:n<2^62) (h0:Pv 0 σ H)
  (hs:∀ i σ H,i<n->Pv i σ H->g (.int i) σ H fun σ2 H2=>tb { D with nx:=Pv (i+1),ct:=Pv (i+1),bk:=D.nx } σ2 H2) (hd:∀ σ H,Pv n σ H->D.nx σ H):XS (QS ta) g tb D σ H:=by
 refine ha _ ⟨n,rfl,by omega,by omega,?_⟩;refine Pr (lo:=0) (n:=n) Pv h0 (fun i σ H hi p=>?_) hd;have e:(0:Int)+i=i:=by omega
 rw [e];exact hs i σ H hi p
theorem VE {K:Κ} {tl:TE} {a:Addr} {xs:List V} (Pv:Nat->St->Hp->Prop) (ha:∀ R:V->Hp->Prop,R (.ref a) H->tl σ H R) (h0:Pv 0 σ H) (hl:∀ i σ H,i<=xs.length->Pv i σ H->ao K H a xs)
  (hs:∀ i x σ H,xs[i]?=some x->Pv i σ H->g x σ H fun σ2 H2=>tb { D with nx:=Pv (i+1),ct:=Pv (i+1),bk:=D.nx } σ2 H2) (hd:∀ σ H,Pv xs.length σ H->D.nx σ H):XS (XM K tl) g tb D σ H:=by
 refine ha _ ⟨a,rfl,⟨xs,hl 0 σ H (az _) h0⟩,?_⟩;exact Vk Pv h0 hl hs hd
end
section
variable {X:Cx}
theorem Wv (hc:X.calm=true:=by rfl):Xv X (.builtin "sum") (fun xs H Q=>∃ (p:Addr) (ns:List Int),xs=[.ref p]/\ao X.K H p (ns.map V.int)/\Q (.int ns.sum) H):=by
 intro pins s σ H xs us Q I r h;obtain ⟨p,ns,rfl,hq,q⟩:=h;obtain ⟨u,rfl,rx⟩:=X8 r
 cases rx
 obtain ⟨its,r',pl,hz⟩:=I.list hq;have hi:=Rw r';have hl:=pl.isList;obtain ⟨xs,ex⟩:=hi.allInts.items;rw [ex] at hl
 have e:preSum (numAt xs) xs.size=ns.sum:=by
  have h1:=nums_intItems (xs:=xs);rw [<- ex] at h1
  have h2:=hi.numsOf;rw [preSum_eq,a9 (by simp)];rw [<- h1];exact congrArg List.sum h2
 refine sum_intListG (I.ok.hd hc) hl fun h' tk t' hk=>?_
 rw [e];exact ⟨.int _,H,I.kept (t':=tk) hk,⟨t',rfl⟩,q⟩
end
def Ite (G:Hp->List V->Prop):It :=
 ⟨fun i H=>∃ xs x,G H xs/\xs[i]?=some x,fun i H v H'=>∃ T,v = .ref T/\H T=none/\∀ xs x,G H xs->xs[i]?=some x->H'=upd H T (.tup [.int i,x]),fun i H=>∃ xs,G H xs/\xs.length<=i⟩
theorem S8 {P:Ο} {w:ε} {K:Κ} {elts:List Expr} {kk:Nat} {pos:Pos} {a e it:Addr} (ne:e≠it) (na:a≠e/\a≠it) :
  Turn P w K (.Tuple elts kk pos) (Ite fun H xs=>ao K H a xs) [e,it] e (fun i h=>(∃ old,IsEnum h e it i old)/\h.IsListIter it a i) where
 mem:=by simp
 obj:=fun i h ⟨⟨old,he⟩,hi⟩ c hc=>by
  simp only [Υ,a7,or_false] at hc;rcases hc with rfl | rfl
  ·exact ⟨_,he,fun v z=>by cases z⟩
  ·obtain ⟨o,q,_,d⟩:=hi
   exact ⟨o,q,fun v z=>by rw [d] at z;cases z⟩
 keep:=fun i h h' ⟨⟨old,he⟩,hi⟩ q=>⟨⟨old,q e (by simp) _ he⟩,hi.at fun o z=>q it (by simp) o z⟩
 item:=by
  intro X hP hw hK hc i pins s σ H E I hf ⟨⟨old,he⟩,hi⟩ hg;subst hP hw hK;obtain ⟨xs,x,g1,hx⟩:=hg;obtain ⟨its,rv,pl,hz⟩:=I.list g1;obtain ⟨u,hu,ru⟩:=rv.get hx;refine wpAny_pyNext_enum_item he hi pl.isList (x:=u) (by simpa using hu) ne fun h1 ho hi1 hT hsz kp=>?_
  refine ⟨_,rfl,?_⟩;refine wpAny_letOwnedTupleGo_enum (s:={ s with heap:=h1,toks:=s.toks+1 }) ho fun h2 he2 sb=>?_
  have elt:e<s.heap.objs.size:=Ρ he;have wK:∀ c o,c∉[e,it]->s.heap.get? c=some o->h2.get? c=some o:=fun c o hm z=>by
   have c1:c≠e:=fun q=>hm (by simp [q])
   have c2:c≠it:=fun q=>hm (by simp [q])
   exact sb.extBut c o c1 (kp c o c1 c2 z)
  have hT2:h2.get? s.heap.objs.size=some { cls := .type "tuple",data := .seq #[.int i s.toks,u] }:=sb.extBut _ _ (ek elt) hT;have I':=I.mj (t':=s.toks+1) (h':=h2) (T:=s.heap.objs.size) (vs:=[.int i,x]) wK hf (Μ _) (show YN X.prog X.w _ h2 _ (.tup [.int i,x]) from ⟨by show 2<=sizeLine;decide,[.int i s.toks,u],.cons ⟨_,rfl⟩ (.cons ru .nil),_,hT2,rfl,_,rfl⟩);have fresh:H s.heap.objs.size=none:=I.hok.fresh (Μ _);refine ⟨.ref s.heap.objs.size,_,I',rfl,⟨_,rfl,fresh,fun xs' x' wL hx'=>?_⟩,⟨⟨_,by simpa using he2⟩,hi1.at fun o z=>sb.extBut _ _ (ω ne) z⟩,fun c hm=>?_⟩
  ·rw [I.jx wL g1,hx] at hx'
   cases hx'
   rfl
  ·have h0:=(hf c hm).1
   have wM:c<s.heap.objs.size:=by
    simp only [Υ,a7,or_false] at hm;rcases hm with rfl | rfl
    ·exact elt
    ·obtain ⟨o,q,_⟩:=hi;exact Ρ q
   rw [Yg (υ wM)];exact h0
 done:=by
  intro X hP hw hK hc i pins s σ H E I hf ⟨⟨old,he⟩,hi⟩ hg;subst hP hw hK;obtain ⟨xs,g1,hx⟩:=hg;obtain ⟨its,rv,pl,hz⟩:=I.list g1;have hl:=rv.length;obtain ⟨f0,f1,f2,f3,f4,f5⟩:=hf it (by simp);exact wpAny_pyNext_enum_end (I.ok.hd hc) he hi pl.isList (by simp;omega) fun h' eb=>⟨rfl,I.turned (t':=s.toks) (fun b o hb z=>eb b o hb z) f0 f1 f3 f4 f5⟩
 self:=fun _ _ _ _ _ ⟨⟨_,he⟩,_⟩ h=>gh he h
section
variable {X:Cx} {elts:List Expr} {kk:Nat} {tpos:Pos}
def Hj (K:Κ) (ta:TA):TI:=fun σ H R=>ta σ H fun vs H1=>∃ a xs,vs=[.ref a]/\ao K H1 a xs/\R (Ite fun H xs=>ao K H a xs) H1
theorem Ui {a:Expr} {ta:TA} {p pos:Pos} (hg:Gl X "enumerate") (hm:X.mg "enumerate"=none) (ha:PA X [a] ta) (hs:Φ [a] X.env=[(false,eval a X.env)]) :
  PI X (.Tuple elts kk tpos) (.Call (.Name "enumerate" p) [a] [] pos) (Hj X.K ta):=by
 intro pins s σ H R I h;refine Call_ (XT I hg hm boot_enumerate (be (aG (ha pos pins s σ H _ I h) fun us s1 ⟨vs,H1,I1,r1,q1⟩=>?_) hs rfl));obtain ⟨x,xs,e,hx,q⟩:=q1;subst e;obtain ⟨u,rfl,ru⟩:=X8 r1
 cases ru
 obtain ⟨i1,_,pl,_⟩:=I1.list hx;have l1:x<s1.heap.objs.size:=by obtain ⟨_,e,_⟩:=pl.isList;exact Ρ e
 refine call_enumerate_list pl.isList fun h' he hi hsz keep=>?_
 refine gh he ?_;have I2:Inv X pins σ H1 { s1 with heap:=h' }:=I1.kept (t':=s1.toks) keep;have l1':@LT.lt Nat _ x s1.heap.objs.size:=l1;refine ⟨_,[s1.heap.objs.size+1,s1.heap.objs.size],_,_,H1,rfl,I2,S8 (by intro z;have z':@Eq Nat _ _:=z;omega) ⟨by intro z;have z':@Eq Nat _ _:=z;omega,by intro z;have z':@Eq Nat _ _:=z;omega⟩,⟨⟨_,he⟩,hi⟩,fun c hc=>?_,q⟩;have hle:s1.heap.objs.size<=c:=by
  simp only [Υ,a7,or_false] at hc;rcases hc with e | e<;>(have e':@Eq Nat _ _:=e;show @LE.le Nat _ s1.heap.objs.size c;omega)
 exact I1.dO hle (I1.hok.fresh hle)
end
mutual
inductive Den (K:Κ) (H:Hp):V->Β->Prop
 | non:Den K H .non .none
 | bl (b:Bool):Den K H (.bl b) (.bool b)
 | int (i:Int):Den K H (.int i) (.int i)
 | str (x:Str) (h:fE x=true):Den K H (.str x) (.str x)
 | lst {a:Addr} {vs:List V} {ds:List Β}:ao K H a vs->cu K H vs ds->Den K H (.ref a) (.list ds)
 | tup {a:Addr} {vs:List V} {ds:List Β}:aq K H a vs->cu K H vs ds->Den K H (.ref a) (.tuple ds)
inductive cu (K:Κ) (H:Hp):List V->List Β->Prop
 | nil:cu K H [] []
 | cons {v:V} {d:Β} {vs:List V} {ds:List Β}:Den K H v d->cu K H vs ds->cu K H (v::vs) (d::ds)
end
mutual
theorem Den.keep {K:Κ} {H H':Hp} (e:Ye H H'):∀ {v:V} {d:Β},Den K H v d->Den K H' v d
 | _,_,.non => .non
 | _,_,.bl b => .bl b
 | _,_,.int i => .int i
 | _,_,.str x h => .str x h
 | _,_,.lst h hs => .lst (e.seq h) (hs.keep e)
 | _,_,.tup h hs => .tup (e.tup h) (hs.keep e)
theorem cu.keep {K:Κ} {H H':Hp} (e:Ye H H'):∀ {vs:List V} {ds:List Β},cu K H vs ds->cu K H' vs ds
 | _,_,.nil => .nil
 | _,_,.cons h hs => .cons (h.keep e) (hs.keep e)
end
mutual
theorem Den.lay {K:Κ} {H:Hp}:∀ {v:V} {d:Β},Den K H v d->d.canLay0=true
 | _,_,.non=>rfl
 | _,_,.bl b=>rfl
 | _,_,.int i=>rfl
 | _,_,.str x h=>by simpa [eg] using h
 | _,_,.lst _ hs=>by rw [eg];exact hs.lay
 | _,_,.tup _ hs=>by rw [eg];exact hs.lay
theorem cu.lay {K:Κ} {H:Hp}:∀ {vs:List V} {ds:List Β},cu K H vs ds->d5 ds=true
 | _,_,.nil=>rfl
 | _,_,.cons h hs=>by rw [d5,h.lay,hs.lay];rfl
end
section
variable {X:Cx}
mutual
theorem Den.reads {pins:List (Addr×Obj)} {σ:St} {H:Hp} {s:Δ} (I:Inv X pins σ H s):∀ {v:V} {d:Β} {u:Α},Den X.K H v d->YA v u->∃ as,Reads s.heap u d as
 | _,_,u,.non,r=>by cases (show u = .none from r);exact ⟨_,.none⟩
 | _,_,u,.bl b,r=>by cases (show u = .bool b from r);exact ⟨_,.bool b⟩
 | _,_,u,.int i,r=>by obtain ⟨t,rfl⟩:=r;exact ⟨_,.int i t⟩
 | _,_,u,.str x h,r=>by obtain ⟨t,rfl⟩:=r;exact ⟨_,.str x t⟩
 | _,_,u,.lst (a:=a) h hs,r=>by
  cases (show u = .ref a from r)
  obtain ⟨its,rv,pl,hz⟩:=I.list h;obtain ⟨as,ra⟩:=hs.reads I rv;obtain ⟨o,e1,e2,n,e3⟩:=pl.isList;exact ⟨_,.list e1 e2 e3 (by simpa using ra)⟩
 | _,_,u,.tup (a:=a) h hs,r=>by
  cases (show u = .ref a from r)
  obtain ⟨its,rv,pl,hz⟩:=I.tuple h;obtain ⟨as,ra⟩:=hs.reads I rv;obtain ⟨o,e1,e2,n,e3⟩:=(show s.heap.IsTuple a its.toArray from pl);exact ⟨_,.tuple e1 e2 e3 (by simpa using ra)⟩
theorem cu.reads {pins:List (Addr×Obj)} {σ:St} {H:Hp} {s:Δ} (I:Inv X pins σ H s):∀ {vs:List V} {ds:List Β} {us:List Α},cu X.K H vs ds->Yw vs us->∃ as,ReadsAll s.heap us ds as
 | _,_,us,.nil,r=>by cases r;exact ⟨_,.nil⟩
 | _,_,us,.cons h hs,r=>by
  cases r with
  | cons r rr =>
   obtain ⟨as,ra⟩:=h.reads I r;obtain ⟨bs,rb⟩:=hs.reads I rr;exact ⟨_,.cons ra rb⟩
end
theorem Hl (hu:X.A.units+64<cLine):bH X (bt .Eq) (fun x y H Q=>∃ d e,Den X.K H x d/\Den X.K H y e/\d.depth<=64/\Q (.bl (db d e)) H):=by
 intro pins s σ H x y v u Q I rx ry h;obtain ⟨d,e,hd,he,dp,q⟩:=h;obtain ⟨as,ra⟩:=hd.reads I rx;obtain ⟨bs,rb⟩:=he.reads I ry;exact SeqAt.rcAt_reads ra rb hd.lay he.lay (by omega) _ _ _ _ ⟨.bl _,H,I,rfl,q⟩
theorem UC (hu:X.A.units+64<cLine):bH X (bt .NotEq) (fun x y H Q=>∃ d e,Den X.K H x d/\Den X.K H y e/\d.depth<=64/\Q (.bl (!PyData.eqv d e)) H):=by
 intro pins s σ H x y v u Q I rx ry h;obtain ⟨d,e,hd,he,dp,q⟩:=h;obtain ⟨as,ra⟩:=hd.reads I rx;obtain ⟨bs,rb⟩:=he.reads I ry;exact SeqAt.compareNe_reads ra rb hd.lay he.lay (by omega) ⟨.bl _,H,I,rfl,q⟩
end
theorem Xb {α:Type} {l:List α} {i:Nat} {x:α} (h:l[i]?=some x):l.take (i+1)=l.take i++[x]:=by
 obtain ⟨hi,hc⟩:=Ι.mp h;rw [List.take_succ_eq_append_getElem hi,hc]
theorem wN {J:It} {P:Hp->Prop} {xs:List V} (hJ:XC J P xs) {src:List (Option Nat)} {te:TE} {σ:St} {H1:Hp} {Q:VK} {D:Addr} (ys:List V) (hP:∀ H',Ye H1 H'->P H') (hD:H1 D=none) (hl:ys.length=xs.length) (hlen:xs.length<=100000)
  (step:∀ (i:Nat) x y H',xs[i]?=some x->ys[i]?=some y->Ye H1 H'->∀ R:VK,(∀ aF,Ye H' aF->R y aF)->te (some x::YF src σ) H' R)
  (fin:∀ H',Ye H1 H'->H' D=some (.lst ys)->Q (.ref D) H'):LC (none::src) J (YE 0) XI te σ H1 Q D:=by
 have h6:100000<sizeLine:=by decide
 refine VU hJ (fun i zs σ' H'=>zs=ys.take i/\(∃ o,σ'=o::YF src σ)/\Ye H1 H'/\H' D=some (.lst zs)) ⟨by simp,⟨none,rfl⟩,.aj hD _,Yb⟩ (fun i zs σ' H' p=>⟨hP _ p.2.2.1,p.2.2.2⟩) (XN 0) ?_ ?_
 ·rintro i zs σ' H' x hx ⟨rfl,⟨o,rfl⟩,sm,hd⟩
  have hi:=(Ι.mp hx).1;have hy:ys[i]?=some (ys[i]'(by omega)):=Χ _
  show te (some x::YF src σ) H' _
  refine step i x _ H' hx hy sm _ fun aF s2=>⟨s2 _ _ hd,?_,(Xb hy).symm,⟨_,rfl⟩,.aP hD (sm.trans s2) _,Yb⟩
  rw [ι];omega
 ·rintro zs σ' H' ⟨rfl,_,sm,hd⟩
  rw [<- hl,c9] at hd
  exact fin H' sm hd
end L2
namespace L2
open PySem PySem.Spec PyProof.Rows
section
variable {a b c d e r:TS} {D:Ends} {σ:St} {H:Hp} (M:St->Hp->Prop) (h1:∀ σ H,M σ H->r D σ H)
include h1
theorem Ni (h2:∀ N:St->Hp->Prop,(∀ σ H,M σ H->N σ H)->a { D with nx:=N } σ H):W4 a r D σ H:=h2 (r D) h1
theorem wO (h2:∀ N:St->Hp->Prop,(∀ σ H,M σ H->N σ H)->W4 a b { D with nx:=N } σ H):W4 a (W4 b r) D σ H:=h2 (r D) h1
end
theorem S9 (i j:Int):rR (.int i) (.int j)=true:=rfl
theorem Tc (i j:Str):rR (.str i) (.str j)=true:=rfl
theorem Ho {α:Type} (xs:List α) (i j:Nat):(xs.drop (min i xs.length)).take (min j xs.length - min i xs.length)=(xs.drop i).take (j - i):=by
 by_cases hi:i<=xs.length
 ·rw [fm hi]
  by_cases hj:j<=xs.length
  ·rw [fm hj]
  ·rw [Nat.min_eq_right (by omega),a9 (by rw [a8];omega),a9 (by rw [a8];omega)]
 ·rw [eJ (by omega),eJ (show xs.length<=i by omega)]
  simp
theorem Td (xs:List V) (i j:Nat):Xr xs (some (i:Int)) (some (j:Int))=(xs.drop i).take (j - i):=by
 unfold Xr;rw [HT.c7,HT.c7];exact Ho xs i j
theorem Wh (xs:List V) (j:Nat):Xr xs none (some (j:Int))=xs.take j:=by
 unfold Xr;rw [HT.c7,HT.dZ,List.drop_zero,Nat.sub_zero];have:=Ho xs 0 j;simpa using this
theorem VW (xs:List V) (i:Nat):Xr xs (some (i:Int)) none=xs.drop i:=by
 unfold Xr;rw [HT.c7,HT.dZ];by_cases hi:i<=xs.length
 ·rw [fm hi,a9 (by rw [a8];omega)]
 ·rw [eJ (by omega),eJ (show xs.length<=i by omega)]
  simp
theorem Wi {α:Type} {c:TT} {tb:TS} {D:Ends} {σ:St} {H:Hp} (Pv:α->St->Hp->Prop) (cond:α->Bool) (μ:α->Nat) (a₀:α) (h0:Pv a₀ σ H)
  (hc:∀ a σ H,Pv a σ H->∀ R:Bool->Hp->Prop,(∀ H',Pv a σ H'->R (cond a) H')->c σ H R)
  (hb:∀ a σ H,Pv a σ H->cond a=true->tb { D with nx:=fun σ' H'=>∃ a',Pv a' σ' H'/\μ a'<μ a,ct:=fun σ' H'=>∃ a',Pv a' σ' H'/\μ a'<μ a,bk:=D.nx } σ H)
  (hd:∀ a σ H,Pv a σ H->cond a=false->D.nx σ H):Fw c tb D σ H:=by
 refine ⟨fun m σ H=>∃ a,m=μ a/\Pv a σ H,⟨_,a₀,rfl,h0⟩,?_⟩;rintro m σ H ⟨a,rfl,p⟩;refine hc a σ H p _ fun H' p'=>?_
 cases e:cond a with
 | true=>exact ⟨_,fun σ' H' ⟨a',q,l⟩=>⟨_,l,a',rfl,q⟩,hb a σ H' p' e⟩
 | false=>exact hd a σ H' p' e
section
variable {X:Cx} {tg:Expr}
def wQ (hi:Int) (n:Nat):It:=⟨fun i _=>i<n,fun i H x H'=>H'=H/\x = .int (hi - i),fun i _=>n<=i⟩
theorem Te {P:Ο} {w:ε} {K:Κ} {tg:Expr} (it:Addr) (hi:Int) (n:Nat):Turn P w K tg (wQ hi n) [it] it (fun i h=>gu h it (hi+(i:Nat)*(-1)) ((n:Int) - (i:Nat)) (-1)) where
 mem:=by simp
 obj:=fun i h st b hb=>by
  have e:b=it:=by simpa using hb
  subst e;exact ⟨_,st,fun v z=>by
   have z':js _=Data.cell v:=z
   cases z'⟩
 keep:=fun i h h' st k=>k it (by simp) _ st
 item:=by
  intro X hP hw hK hc i pins s σ H E I hf st hg;subst hP hw hK;obtain ⟨f0,f1,f2,f3,f4,f5⟩:=hf it (by simp);have W:=Walks.range (prog:=X.prog) (w:=X.w) (I.ok.hd hc) it hi (-1) n;refine W.item i s _ _ hg st fun v h' tk hv st' kk=>?_
  obtain ⟨t,rfl⟩:=hv;have I1:Inv X pins σ H { s with heap:=h',toks:=tk }:=I.turned (fun b o hb e=>kk b o (by simpa using hb) e) f0 f1 f3 f4 f5;refine ⟨_,rfl,VQ (s:={ s with heap:=h',toks:=tk }) (n:="range_iterator") st' rfl rfl (by decide) ⟨.int (hi - i),H,I1,⟨t,?_⟩,⟨rfl,rfl⟩,st',fun b hb=>(hf b hb).1⟩⟩;have:hi+(i:Int) * -1=hi - i:=by omega
  rw [this]
 done:=by
  intro X hP hw hK hc i pins s σ H E I hf st hg;subst hP hw hK;obtain ⟨f0,f1,f2,f3,f4,f5⟩:=hf it (by simp);exact wpAny_pyNext_range_end (I.ok.hd hc) st (by have:n<=i:=hg;omega) fun h' eb=>⟨rfl,I.turned (t':=s.toks) (fun b o hb e=>eb b o hb e) f0 f1 f3 f4 f5⟩
 self:=fun _ _ _ _ _ st h=>wpAny_pyIter_rangeiter st h
theorem Tf {a b:Int} (ha : -(2^62)<=a) (ha':a<2^62) (hb : -(2^62)<=b) (hb':b<2^62):fg a b (-1)=true:=by
 have e:ψ a b (-1)=if a>b then a - b else 0:=by unfold ψ;simp
 unfold fg;rw [e];simp only [Builtin.Range.rangeFitsLong,dm,Bool.or_eq_true,decide_eq_true_eq,beq_iff_eq,show ¬ ((-1:Int)>0) by decide,if_false]
 split<;>omega
theorem Tg {pins:List (Addr×Obj)} {σ:St} {H:Hp} {s:Δ} {R:It->Hp->Prop} {E:Α->Δ->Prop} {lo hi:Int} {t u v:Tok} {tk:Nat} (I:Inv X pins σ H s) (h1 : -(2^62)<=lo) (h2:lo<2^62) (h3 : -(2^62)<=hi) (h4:hi<2^62)
  (q:R (wQ lo (lo - hi).toNat) H):Ξ (γ X.prog X.w) X.A (pyIter (.ref s.heap.objs.size)) (PIE X pins σ tg R) E { s with heap:=s.heap.push { cls := .type "range",data := .fields #[.int lo t,.int hi u,.int (-1) v] },toks:=tk }:=by
 refine wpAny_pyIter_range (IsRange.new ..) (Tf h1 h2 h3 h4) ?_;have I1:Inv X pins σ H { s with heap:=s.heap.push { cls := .type "range",data := .fields #[.int lo t,.int hi u,.int (-1) v] },toks:=tk }:=I.kept fun b o e=>Η _ e
 refine ⟨(s.heap.push { cls := .type "range",data := .fields #[.int lo t,.int hi u,.int (-1) v] }).objs.size,[(s.heap.push { cls := .type "range",data := .fields #[.int lo t,.int hi u,.int (-1) v] }).objs.size],_,_,H,rfl,
  I1.kept (t':=tk) fun b o e=>Η _ e,Te _ lo (lo - hi).toNat,?_,fun b hb=>?_,q⟩
 ·have e1:lo+((0:Nat):Int)*(-1)=lo:=by simp
  have e2:(((lo - hi).toNat:Nat):Int) - ((0:Nat):Int)=ψ lo hi (-1):=by unfold ψ;simp;split<;>omega
  show gu _ _ (lo+((0:Nat):Int)*(-1)) ((((lo - hi).toNat:Nat):Int) - ((0:Nat):Int)) (-1)
  rw [e1,e2];exact Ω _ rfl
 ·have e:b=(s.heap.push { cls := .type "range",data := .fields #[.int lo t,.int hi u,.int (-1) v] }).objs.size:=by simpa using hb
  subst e;exact I1.dO (Μ _) (I1.hok.fresh (Μ _))
def Hq (ta:TA):TI:=fun σ H R=>ta σ H fun vs H1=>∃ i j:Int,vs=[.int i,.int j,.int (-1)]/\(-(2^62)<=i/\i<2^62 /\ -(2^62)<=j/\j<2^62)/\R (wQ i (i - j).toNat) H1
theorem Ti {a b c:Expr} {ta:TA} {p pos:Pos} (hg:Gl X "range") (hm:X.mg "range"=none) (ha:PA X [a,b,c] ta) (hs:Φ [a,b,c] X.env=[(false,eval a X.env),(false,eval b X.env),(false,eval c X.env)]) (hs2:Φ [b,c] X.env=[(false,eval b X.env),(false,eval c X.env)]) :
  PI X tg (.Call (.Name "range" p) [a,b,c] [] pos) (Hq ta):=by
 intro pins s σ H R I h;refine Call_ (XT I hg hm boot_range (be (aG (ha pos pins s σ H _ I h) fun us s1 ⟨vs,H1,I1,r1,q1⟩=>?_) (by rw [hs,hs2]) (by rw [hs2];rfl)));obtain ⟨i,j,e,⟨q1,q2,q3,q4⟩,q⟩:=q1;subst e
 cases r1 with
 | cons r rr =>
  cases rr with
  | cons r' rr =>
   cases rr with
   | cons r'' rr =>
    cases rr
    obtain ⟨t,rfl⟩:=r;obtain ⟨t',rfl⟩:=r';obtain ⟨t'',rfl⟩:=r'';exact call_range_3 (by decide) (Tg I1 q1 q2 q3 q4 q) (.inl (PyProof.noPylong_small (by decide)))
end
theorem Tj {g:TG} {tb:TS} {D:Ends} {σ:St} {H:Hp} {K:Κ} {tl:TE} {xs:List V} (Pv:Addr->Nat->St->Hp->Prop) (ha:∀ R:V->Hp->Prop,(∀ c H1,Pv c 0 σ H1->R (.ref c) H1)->tl σ H R) (hl:∀ c i σ H,i<=xs.length->Pv c i σ H->ao K H c xs)
  (hs:∀ c (i:Nat) x σ H,xs[i]?=some x->Pv c i σ H->g x σ H fun σ2 H2=>tb { D with nx:=Pv c (i+1),ct:=Pv c (i+1),bk:=D.nx } σ2 H2) (hd:∀ c σ H,Pv c xs.length σ H->D.nx σ H):XS (XM K tl) g tb D σ H:=by
 refine ha _ fun c H1 h0=>⟨c,rfl,⟨xs,hl c 0 σ H1 (az _) h0⟩,?_⟩
 exact Vk (Pv c) h0 (hl c) (hs c) (hd c)
section
variable {src:List (Option Nat)} {te:TE} {σ:St} {H:Hp} {Q:VK}
theorem UD {ta:TA} {n:Nat} (ys:List V) (ha:∀ R:List V->Hp->Prop,R [.int n] H->ta σ H R) (hl:ys.length=n) (hlen:n<=100000)
  (step:∀ (i:Nat) y H',i<n->ys[i]?=some y->Ye H H'->∀ R:VK,(∀ aF,Ye H' aF->R y aF)->te (some (.int i)::YF src σ) H' R)
  (fin:∀ D H',H D=none->Ye H H'->H' D=some (.lst ys)->Q (.ref D) H'):dj (none::src) (QS ta) (YE 0) XI te σ H Q:=by
 refine ha _ ⟨n,rfl,by omega,by omega,fun D hD=>?_⟩;refine wN (V9 (lo:=0) (n:=n) (P:=fun _=>True)) ys (fun _ _=>trivial) hD (by simpa using hl) (by simpa using hlen) (fun i x y H' hx hy sm R r=>?_) fun H'=>fin D H' hD
 have hi:i<n:=by have:=(Ι.mp hx).1;simpa using this
 rw [Ν,ce hi] at hx
 have e:V.int (0+(i:Int))=x:=Λ hx;rw [ja] at e
 subst e;exact step i y H' hi hy sm R r
theorem X0 {K:Κ} {tl:TE} {xs:List V} (ys:List V) (ha:∀ R:V->Hp->Prop,(∀ a H1,Ye H H1->ao K H1 a xs->R (.ref a) H1)->tl σ H R) (hl:ys.length=xs.length) (hlen:xs.length<=100000)
  (step:∀ (i:Nat) x y H',xs[i]?=some x->ys[i]?=some y->Ye H H'->∀ R:VK,(∀ aF,Ye H' aF->R y aF)->te (some x::YF src σ) H' R)
  (fin:∀ D H',H D=none->Ye H H'->H' D=some (.lst ys)->Q (.ref D) H'):dj (none::src) (XM K tl) (YE 0) XI te σ H Q :=
 ha _ fun a H1 s1 hS=>⟨a,rfl,⟨xs,hS⟩,fun D hD=>wN (XD.imp fun H' (e:Ye H1 H')=>e.seq hS) ys (fun _ e=>e) hD hl hlen (fun i x y H' hx hy sm R r=>step i x y H' hx hy (s1.trans sm) R r) fun H' sm=>fin D H' (s1.free hD) (s1.trans sm)⟩
theorem Tn {J:It} {P:Hp->Prop} {xs:List V} (hJ:XC J P xs) {tt:TT} {H1:Hp} {D:Addr} (p:V->Bool) (f:V->V) (hP:∀ H',Ye H1 H'->P H') (hD:H1 D=none) (hlen:xs.length<=100000)
  (test:∀ x H',x∈xs->Ye H1 H'->∀ R:Bool->Hp->Prop,(∀ aF,Ye H' aF->R (p x) aF)->tt (some x::YF src σ) H' R)
  (step:∀ x H',x∈xs->p x=true->Ye H1 H'->∀ R:VK,(∀ aF,Ye H' aF->R (f x) aF)->te (some x::YF src σ) H' R)
  (fin:∀ H',Ye H1 H'->H' D=some (.lst ((xs.filter p).map f))->Q (.ref D) H'):LC (none::src) J (YE 0) tt te σ H1 Q D:=by
 have h6:100000<sizeLine:=by decide
 refine wH hJ (fun i zs σ' H'=>zs=((xs.take i).filter p).map f/\(∃ o,σ'=o::YF src σ)/\Ye H1 H'/\H' D=some (.lst zs)) ⟨by simp,⟨none,rfl⟩,.aj hD _,Yb⟩ (fun i zs σ' H' q=>⟨hP _ q.2.2.1,q.2.2.2⟩) ?_ ?_
 ·rintro i zs σ' H' x hx ⟨rfl,⟨o,rfl⟩,sm,hd⟩
  have hi:=(Ι.mp hx).1;have hm:=Τ hx
  show tt (some x::YF src σ) H' _
  refine test x H' hm sm _ fun H2 s2=>?_
  cases e:p x with
  | true =>
   refine XY ?_;refine step x H2 hm e (sm.trans s2) _ fun H3 s3=>⟨s3 _ _ (s2 _ _ hd),?_,?_,⟨_,rfl⟩,.aP hD ((sm.trans s2).trans s3) _,Yb⟩
   ·have h7:=List.length_filter_le p (xs.take i)
    rw [Ε];rw [ι] at h7
    omega
   ·rw [Xb hx,fI,ξ]
    simp [List.filter,e]
  | false =>
   refine YQ ?_;refine ⟨?_,⟨_,rfl⟩,sm.trans s2,s2 _ _ hd⟩;rw [Xb hx,fI];simp [List.filter,e]
 ·rintro zs σ' H' ⟨rfl,_,sm,hd⟩
  rw [c9] at hd
  exact fin H' sm hd
theorem Tq {K:Κ} {tl:TE} {tt:TT} {xs:List V} (p:V->Bool) (f:V->V) (ha:∀ R:V->Hp->Prop,(∀ a H1,Ye H H1->ao K H1 a xs->R (.ref a) H1)->tl σ H R) (hlen:xs.length<=100000)
  (test:∀ x H',x∈xs->Ye H H'->∀ R:Bool->Hp->Prop,(∀ aF,Ye H' aF->R (p x) aF)->tt (some x::YF src σ) H' R)
  (step:∀ x H',x∈xs->p x=true->Ye H H'->∀ R:VK,(∀ aF,Ye H' aF->R (f x) aF)->te (some x::YF src σ) H' R)
  (fin:∀ D H',H D=none->Ye H H'->H' D=some (.lst ((xs.filter p).map f))->Q (.ref D) H'):dj (none::src) (XM K tl) (YE 0) tt te σ H Q :=
 ha _ fun a H1 s1 hS=>⟨a,rfl,⟨xs,hS⟩,fun D hD=>Tn (XD.imp fun H' (e:Ye H1 H')=>e.seq hS) p f (fun _ e=>e) hD hlen (fun x H' hx sm R r=>test x H' hx (s1.trans sm) R r) (fun x H' hx hp sm R r=>step x H' hx hp (s1.trans sm) R r) fun H' sm=>fin D H' (s1.free hD) (s1.trans sm)⟩
end
section
variable {X:Cx} {K:Κ}
theorem X1 (h:X.K=K:=by rfl):oH X (rW K):=by subst h;exact YD
theorem Wj (h:X.K=K:=by rfl):oG X (rY K):=by subst h;exact WC
theorem Vu (h:X.K=K:=by rfl):Xv X (.builtin "len") (rZ K):=by subst h;exact YB
end
theorem QI (its:List Α):slicePick its.toArray none none (some (-1))=its.reverse.toArray:=by
 unfold slicePick;have hb:bS none none (some (-1)) its.toArray.size=((its.length:Int) - 1,-1,-1):=by simp [bS]
 rw [hb];have hr:i3 ((its.length:Int) - 1) (-1) (-1)=(ai its.length).map fun (k:Nat)=>its.length - 1 - k:=by
  unfold i3;simp only [show ¬ ((-1:Int)>0) by decide,if_false];have hc:(if (its.length:Int) - 1 > -1 then ((its.length:Int) - 1 - -1 - -1 - 1) / - -1 else 0).toNat=its.length:=by
   split
   ·have:((its.length:Int) - 1 - -1 - -1 - 1)=its.length:=by omega
    rw [this,show (- -1:Int)=1 from rfl,Int.ediv_one];omega
   ·omega
  rw [hc]
  apply List.map_congr_left
  intro k hk;have:k<its.length:=b8.mp hk;omega
 simp only [hr]
 congr 1
 rw [List.filterMap_map]
 apply List.ext_getElem?
 intro i;have key:∀ (n:Nat),n<=its.length->(List.filterMap ((fun x=>its.toArray[x]?) ∘ fun k=>its.length - 1 - k) (ai n))=its.reverse.take n:=by
  intro n
  induction n with
  | zero=>intro _;simp
  | succ n ih =>
   intro hn;rw [dL,List.filterMap_append,ih (by omega)];have hx:its.reverse[n]?=some (its[its.length - 1 - n]'(by omega)):=by
    rw [List.getElem?_reverse (by omega)];exact Χ _
   rw [Xb hx];have hlt:its.length - 1 - n<its.length:=by omega
   simp [hlt]
 rw [key its.length (Μ _)];rw [a9 (by simp)]
section
variable {X:Cx} {e st:Expr} {te ts:TE} {pos p2:Pos}
def qT (K:Κ) (te ts:TE):TE:=fun σ H Q=>te σ H fun x H1=>ts σ H1 fun y H2=>y = .int (-1)/\∃ a xs,x = .ref a/\ao K H2 a xs/\∀ p,H2 p=none->Q (.ref p) (upd H2 p (.lst xs.reverse))
theorem Tr (he:PE X e te) (hs:PE X st ts):PE X (.Subscript e (.Slice none none (some st) p2) pos) (qT X.K te ts):=by
 intro pins s σ H Q I h;refine i5 (aG (he pins s σ H _ I h) fun v s1 ⟨x,H1,I1,r1,q1⟩=>?_);refine wpAny_Slice ?_;rw [iL];refine Ψ (Ψ ?_);rw [iF];refine aG (hs pins s1 σ H1 _ I1 q1) fun u s2 ⟨y,H2,I2,r2,q2⟩=>?_
 obtain ⟨rfl,a,xs,rfl,hx,q⟩:=q2;obtain ⟨t,rfl⟩:=r2
 cases r1
 have I4:Inv X pins σ H2 { s2 with heap:=s2.heap.push { cls := .type "slice",data := .fields #[.none,.none,.int (-1) t] } }:=I2.kept (t':=s2.toks) fun b ob q=>Η _ q
 obtain ⟨its,r,ht,hz⟩:=I4.list hx;have hlen:=r.length;have hg:=wpAny_getItem_list_slice (prog:=X.prog) (w:=X.w) (A:=X.A) (E:=X.xe) (Q:=EP X pins σ Q) ht.isList (Heap.IsSliceOf.new ..) .none .none (.int (-1) t) (by decide) (by
  rw [QI];refine ⟨.ref _,_,I4.laid (t':=_) (o := .lst xs.reverse) (fun b ob q=>Η _ q) (Μ _) ?_,rfl,q _ (I4.hok.fresh (Μ _))⟩;exact ⟨by rw [List.length_reverse];exact hz,_,0,r.reverse,Ω _ rfl⟩) (by rw [ν]<;>omega)
 exact tail_any (ops:=[.ref a,.ref s2.heap.objs.size]) ht.isList.typeIs slot_list_getitem.lookup hg (by with_unfolding_all rfl)
end
section
variable {X:Cx} {pos:Pos}
theorem Tt:bH X (bt .Is) (fun x y H Q=>∃ a b,x = .bl a/\y = .bl b/\Q (.bl (a==b)) H):=by
 intro pins s σ H x y v u Q I rx ry h;obtain ⟨a,b,rfl,rfl,q⟩:=h
 cases rx
 cases ry
 exact is_bool ⟨.bl _,H,I,rfl,q⟩
def wR:V->List V->Hp->VK->Prop:=fun x vs H Q=>∃ i,x = .int i/\vs=[]/\Q (.int (fh i:Nat)) H
theorem Tv:jB X "int.bit_length" wR:=by
 intro pins s σ H x vs v us Q I rx r h;obtain ⟨i,rfl,rfl,q⟩:=h;obtain ⟨t,rfl⟩:=rx
 cases r
 exact call_gives F.slot_int_bit_length (typeIs_int s i t) F.entry_int_bit_length (F.args_int_bit_length_1 _) (AutoIntG2.int_bit_length_int_0 i t) ⟨.int _,H,I.tok _,⟨_,rfl⟩,q⟩
def wU:V->List V->Hp->VK->Prop:=fun x vs H Q=>∃ (z y:Str),x = .str z/\vs=[.str y]/\Q (.int (Txt.find z y)) H
theorem Tw:jB X "str.find" wU:=by
 intro pins s σ H x vs v us Q I rx r h;obtain ⟨z,y,rfl,rfl,q⟩:=h;obtain ⟨t,rfl⟩:=rx;obtain ⟨u,rfl,ru⟩:=X8 r;obtain ⟨t',rfl⟩:=ru;exact call_gives F.slot_str_find (typeIs_str s z t) F.entry_str_find (F.args_str_find_2 _ _) (gives_str_find z y t t') ⟨.int _,H,I.tok _,⟨_,rfl⟩,q⟩
def Hr:TE:=fun _ H Q=>∀ p,H p=none->Q (.ref p) (upd H p (.dK []))
end
def Gx.jE (g:Gx) (x:Str) (xs:List V):Prop:=∃ c,g.mg x=some (.ref c)/\∀ H,aq g.K H c xs
theorem Tz {K:Κ} {h:Heap} {mg:Str->Option Α} {x:Str} {i:Addr} {dc:Option Addr} {its:Array Α} {n:Nat} {sl:Array (Option Α)} {xs:List V} (X:K.In h) (G:h.Ns ba mg)
  (a:W.nsIn K ba x=some (some (.ref i))) (l:K.lookup i=some ⟨.type "tuple",dc,.seq its n,sl⟩) (hz:its.size<=sizeLine) (r:Yw xs its.toList):∀ P w base,(Gx.mk P w K mg base).jE x xs :=
 fun P w base=>⟨i,W.mg_of X G a,fun H => .inr ⟨_,its,n,l,rfl,rfl,hz,r⟩⟩
section
variable {X:Cx} {g:Gx} {x:Str} {pos:Pos}
def wV (K:Κ) (xs:List V):TE:=fun _ H Q=>∀ c,aq K H c xs->Q (.ref c) H
theorem Hs {xs:List V} (F:g.jE x xs) (hX:X.gx=g) (hg:Gl X x) (hd:(x==("__debug__":Str))=false):PE X (.Name x pos) (wV g.K xs):=by
 subst hX;obtain ⟨c,e,hc⟩:=F;exact fun pins s σ H Q I h=>Fi hg e (show YA (.ref c) (.ref c) from rfl) hd pins s σ H Q I (h c (hc H))
end
theorem Y5 {c A B:Prop} [Decidable c] (h:¬ c) (hb:B):if c then A else B:=by rw [if_neg h];exact hb
theorem Xx {c A B:Prop} [Decidable c] (h:c) (ha:A):if c then A else B:=by rw [if_pos h];exact ha
section
variable {src:List (Option Nat)} {te:TE} {σ:St} {H:Hp} {Q:VK}
theorem Ht {tl:TE} {l:List Nat} (ys:List V) (ha:∀ R:V->Hp->Prop,R (.str (S l)) H->tl σ H R) (hl:ys.length=l.length) (hlen:l.length<=100000)
  (step:∀ (i c:Nat) y H',l[i]?=some c->ys[i]?=some y->Ye H H'->∀ R:VK,(∀ aF,Ye H' aF->R y aF)->te (some (.str (S [c]))::YF src σ) H' R)
  (fin:∀ D H',H D=none->Ye H H'->H' D=some (.lst ys)->Q (.ref D) H'):dj (none::src) (wG tl) (YE 0) XI te σ H Q :=
 ha _ ⟨S l,rfl,fun D hD=>wN (Sx (S l) (fun _=>True)) ys (fun _ _=>trivial) hD (by rw [XU];simpa using hl) (by rw [XU];simpa using hlen) (fun i x y H' hx hy sm R r=>by
  rw [XU,Ν] at hx
  cases e:l[i]? with
  | none=>rw [e] at hx;cases hx
  | some c =>
   rw [e] at hx
   have:V.str ⟨#[c]⟩=x:=Λ hx;subst this;exact step i c y H' e hy sm R r) fun H'=>fin D H' hD⟩
end
section
variable {X:Cx} {K:Κ} {o e:Expr} {es:List Expr} {to:TE} {t:TA} {name:Str} {apos cpos:Pos} {T id:String} {r:V->List V->Hp->VK->Prop}
theorem TF (pa:PlainAttrs T) (slot:Slot T name id) (hty:typeOf (.builtin id)=pure (.type "method_descriptor")) (hm:jB X id r) (ho:PE X o to) (ha:PA X (e::es) t)
  (hbase:er o name X.env (eval o X.env)=eval o X.env)
  (hfew:((bv cpos (Φ (e::es) X.env)).all (fun x => !x.1)&&(ir cpos (e9 [] X.env)).all (fun x=>x.1.isSome)
   && decide ((e::es).length+([]:List iq).length+(if ([]:List iq).isEmpty then 0 else 1)<30))=true)
  (hline:(apos.endLine==cpos.line)=true) (hs:Φ (e::es) X.env=(false,eval e X.env)::Φ es X.env) (hplain:(bv cpos (Φ es X.env)).any (·.1)=false) (hK:X.K=K) :
  PE X (.Call (.Attribute o name apos) (e::es) [] cpos) (oJ K T r to t):=by
 subst hK;exact Xw pa slot hty hm ho ha hbase hfew hline hs hplain
end
section
variable {X:Cx}
def Ed (i j:Int):Prop:=QY i j\/qJ i j
theorem VX:bH X (fq .Mult) (rI Ed fun i j => .int (i*j)):=rP fun _ _ _ _ _ _ _ hc q=>mul_int q (hc.elim (fun h=>h.ok) fun h=>h.ok)
end
theorem TJ (l:List Nat) (c:Nat):(!(Builtin.Str.occurrences (S l) (S [c]) 0 (S l).length 1).isEmpty)=decide (c∈l):=by
 have:=PySem.StrLaws.found_one (S l) c;rw [XU] at this
 exact this
end L2
namespace L2
open PySem PySem.Calls PySem.Spec PyProof.Rows PyProof.V
theorem TQ:typeLookup (.type "zip") "__len__"=pure none:=by rw [typeLookup_type,builtinLookup_eq_fast];kernel_rfl
theorem TV:typeLookup (.type "zip") "__length_hint__"=pure none:=by rw [typeLookup_type,builtinLookup_eq_fast];kernel_rfl
section
variable {prog:Ο} {w:ε} {A:τ} {E:Α->Δ->Prop} {s:Δ} {z TI TO i1 i2 p1 p2:Addr} {xs ys:List Α}
theorem TX (hT:s.TypeIs (.ref z) "zip") {Q:Bool->Δ->Prop} (h:Q true s):Ξ (γ prog w) A (Builtin.List.listLengthHint (.ref z)) Q E s:=by
 unfold Builtin.List.listLengthHint;refine Θ (ez hT TQ ?_)
 show Ξ _ _ (specialOf (.ref z) "__length_hint__" >>= _) _ _ _
 refine Θ (ez hT TV ?_);exact Ψ h
end
end L2
namespace L2
open PySem PySem.Spec PyProof.Rows
section
variable {X:Cx} {pins:List (Addr×Obj)} {σ:St} {H H':Hp} {s:Δ} {h':Heap}
theorem Inv.vq {t':Nat} {ch:List Addr} (I:Inv X pins σ H s) (k:∀ b o,b∉ch->s.heap.get? b=some o->h'.get? b=some o) (hf:∀ b∈ch,X6 X pins H b) (up:∀ b u,H b=some u->H' b=some u)
  (nw:∀ b u,H' b=some u->H b=none->s.heap.objs.size<=b/\YN X.prog X.w H' h' b u):Inv X pins σ H' { s with heap:=h',toks:=t' }:=by
 have eN:∀ b u,H b=some u->b∉ch:=fun b u e z=>by rw [(hf b z).1] at e;cases e
 refine I.step (g':=s.gens) (d':=s.drawn) (ch:=ch) (fun b hb=>?_) (fun b o _ _ hc e _=>k b o hc e) (fun b o _ _ hc e _=>⟨o.slots,k b o hc e⟩) (fun b o _ e n=>?_)
  (fun b o hc e=>⟨o,k b o hc e⟩) (fun b xs e=>up b _ e) (fun b o u e=>up b _ e) (fun b ps e=>⟨#[],by rw [up b _ e];simp⟩) (fun m hm=>?_) (fun b u e=>?_) I.bare
 ·obtain ⟨f0,f1,f2,f3,f4,f5⟩:=hf b hb
  exact ⟨f3,f1,f4,f5⟩
 ·cases q:H' b with
  | none=>rfl
  | some u=>exact absurd (Ρ e) (Nat.not_lt.mpr (nw b u q n).1)
 ·obtain ⟨o,es,ep,ho,r⟩:=hm
  exact ⟨o,es,ep,k _ o (fun z=>(hf _ z).2.1 rfl) ho,r⟩
 ·cases q:H b with
  | none=>exact (nw b u e q).2
  | some v =>
   have q':=up b v q;rw [e] at q'
   cases q'
   refine (I.hok b u q).stay (fun c v hc q3=>k c v ?_ q3) (fun c q=>up c _ q) fun c xs q=>up c _ q
   rcases hc with z | z
   ·rw [z];exact eN b u q
   ·exact eN c _ z
end
section
variable {X:Cx}
def Hu (K:Κ) (ta:TA):TE:=fun σ H Q=>ta σ H fun vs H1=>∃ a b xs ys,vs=[.ref a,.ref b]/\aq K H1 a xs/\aq K H1 b ys/\xs.length=ys.length /\
 ∀ (l:Addr) (as:List Addr) (H2:Hp),H1 l=none->Ye H1 H2->H2 l=some (.lst (as.map V.ref))->as.length=xs.length ->
  (∀ (j:Nat) a x y,as[j]?=some a->xs[j]?=some x->ys[j]?=some y->H1 a=none/\H2 a=some (.tup [x,y]))->Q (.ref l) H2
end
section
variable {src:List (Option Nat)} {te:TE} {σ:St} {H:Hp} {Q:VK}
theorem TY {J:It} {P:Hp->Prop} {xs:List V} (hJ:XC J P xs) {H1:Hp} {D:Addr} (ts:List (List V)) (hP:∀ H',Ye H1 H'->P H') (hD:H1 D=none) (hl:ts.length=xs.length) (hlen:xs.length<=100000)
  (step:∀ (i:Nat) x t H',xs[i]?=some x->ts[i]?=some t->Ye H1 H'->∀ R:VK,(∀ a aF,Ye H' aF->aF a=some (.tup t)->R (.ref a) aF)->te (some x::YF src σ) H' R)
  (fin:∀ (as:List Addr) H',Ye H1 H'->H' D=some (.lst (as.map V.ref))->as.length=xs.length->(∀ (j:Nat) a t,as[j]?=some a->ts[j]?=some t->H' a=some (.tup t))->Q (.ref D) H'):LC (none::src) J (YE 0) XI te σ H1 Q D:=by
 have h6:100000<sizeLine:=by decide
 refine VU hJ (fun i zs σ' H'=>∃ as:List Addr,zs=as.map V.ref/\as.length=i/\(∃ o,σ'=o::YF src σ)/\Ye H1 H'/\H' D=some (.lst zs)/\∀ (j:Nat) a t,as[j]?=some a->ts[j]?=some t->H' a=some (.tup t))
  ⟨[],rfl,rfl,⟨none,rfl⟩,.aj hD _,Yb,fun j a t h=>by simp at h⟩ (fun i zs σ' H' ⟨as,_,_,_,p1,p2,_⟩=>⟨hP _ p1,p2⟩) (XN 0) ?_ ?_
 ·rintro i zs σ' H' x hx ⟨as,rfl,hi',⟨o,rfl⟩,sm,hd,hts⟩
  have hi:=(Ι.mp hx).1;have ht:ts[i]?=some (ts[i]'(by omega)):=Χ _
  show te (some x::YF src σ) H' _
  refine step i x _ H' hx ht sm _ fun a aF s2 ha=>⟨s2 _ _ hd,by rw [Ε];omega,as++[a],by simp,by simp [hi'],⟨_,rfl⟩,.aP hD (sm.trans s2) _,Yb,fun j b t hj hjt=>?_⟩
  have key:aF b=some (.tup t):=by
   rcases Nat.lt_trichotomy j as.length with h1 | h1 | h1
   ·rw [ag h1] at hj
    exact s2 _ _ (hts j b t hj hjt)
   ·have hb:a=b:=by subst h1;simpa using hj
    subst hb;rw [h1,hi'] at hjt
    rw [ht] at hjt
    cases hjt
    exact ha
   ·rw [List.getElem?_eq_none (by rw [Ζ,δ];omega)] at hj;cases hj
  rw [Yg (YI key (s2 _ _ hd) (by intro z;cases z))];exact key
 ·rintro zs σ' H' ⟨as,rfl,hn,_,sm,hd,hts⟩
  exact fin as H' sm hd hn hts
theorem T3 {K:Κ} {tl:TE} {xs:List V} (ts:List (List V)) (ha:∀ R:V->Hp->Prop,(∀ a H1,Ye H H1->ao K H1 a xs->R (.ref a) H1)->tl σ H R) (hl:ts.length=xs.length) (hlen:xs.length<=100000)
  (step:∀ (i:Nat) x t H',xs[i]?=some x->ts[i]?=some t->Ye H H'->∀ R:VK,(∀ a aF,Ye H' aF->aF a=some (.tup t)->R (.ref a) aF)->te (some x::YF src σ) H' R)
  (fin:∀ D (as:List Addr) H',H D=none->Ye H H'->H' D=some (.lst (as.map V.ref))->as.length=xs.length->(∀ (j:Nat) a t,as[j]?=some a->ts[j]?=some t->H' a=some (.tup t))->Q (.ref D) H'):dj (none::src) (XM K tl) (YE 0) XI te σ H Q :=
 ha _ fun a H1 s1 hS=>⟨a,rfl,⟨xs,hS⟩,fun D hD=>TY (XD.imp fun H' (e:Ye H1 H')=>e.seq hS) ts (fun _ e=>e) hD hl hlen (fun i x t H' hx ht sm R r=>step i x t H' hx ht (s1.trans sm) R r) fun as H' sm=>fin D as H' (s1.free hD) (s1.trans sm)⟩
end
section
variable {X:Cx}
theorem T4 {i:Nat} {x:Str} {pos':Pos} {pins:List (Addr×Obj)} {σ:St} {D0:Ends} (hN:X.N.Nodup) (hix:X.N[i]?=some x) (hlx:Loc X.env.scope x) (hf:X.fn x=true\/X.env.scope.names.lookup x=some .local) (D C:Addr) (s6:Δ) (H5:Hp)
  (fi:∀ h',cp C s6.heap h'->Inv X pins σ H5 { s6 with heap:=h' }) (hn:∃ m,s6.heap.Ns C m) (T5:H5 C=none) (hC:∀ {H':Hp},H' C=none->X6 X pins H' C) (qn:D0.nx (σ.set i (some (.ref D))) H5) :
  compPost (γ X.prog X.w) X.A X.xe (some fun v=>assignAll v ((ge [.Name x pos'] X.env).map (·.2))) (fun _ s'=>Ξ (γ X.prog X.w) X.A (pure PUnit.unit) (fun _ s'=>Ξ (γ X.prog X.w) X.A (pure Flow.next) (SP X pins D0) X.xe s') X.xe s') (.ref D) C (.ok .next) s6:=by
 obtain ⟨m,oC,es,ep,hoC,rC⟩:=hn;have IO:Inv X pins σ H5 s6:=fi s6.heap (Heap.SameBut.refl _ _);have IP:=IO.pinned (fp:=[C]) (fun b hb=>by rw [ς.mp hb];exact hC T5) (fun b hb=>by rw [ς.mp hb];exact ⟨oC,hoC,fun v z=>by (rw [rC.1] at z;cases z)⟩)
 show Ξ _ _ (assign (.Name x pos') X.env (.ref D)) _ _ _
 refine aG (Yu hN hix hlx hf _ s6 σ H5 (.ref D) (.ref D) _ IP rfl qn) fun _ s7 ⟨dR,H7,I7,q7⟩=>?_
 obtain ⟨g1,g2,_⟩:=I7.pin (C,oC) (ap _ (ap _ (X7 (ς.mpr rfl) hoC)));refine ⟨m,⟨oC,es,ep,g1,rC⟩,fun h' sb=>Ψ (Ψ ⟨dR,H7,?_,q7⟩)⟩;exact I7.dg.vp (t':=s7.toks) (ch:=[C]) (fun b o hb e=>sb.extBut b o (fun z=>hb (by rw [z];exact ς.mpr rfl)) e) (fun b hb=>by rw [ς.mp hb];exact hC g2)
theorem U3 {i:Nat} {x:Str} {pos' apos:Pos} {elt tg iter:Expr} {ifs:List Expr} {scope:cw} {pos:Pos} {src:List (Option Nat)} {N':List Str} {wi:TI} {g:TG} {tt:TT} {te:TE} (hN:X.N.Nodup) (hix:X.N[i]?=some x) (hlx:Loc X.env.scope x) (hcap:dW X scope src N') (hc:X.calm=true) (hi:PI X tg iter wi)
  (hg:∀ cl C s₀ H₀ fp pn,PG (bZ X scope N' cl C s₀ H₀ fp pn) tg g) (ht:∀ cl C s₀ H₀ fp pn,oM (bZ X scope N' cl C s₀ H₀ fp pn) ifs tt) (he:∀ cl C s₀ H₀ fp pn,PE (bZ X scope N' cl C s₀ H₀ fp pn) elt te)
  (hfree:∀ x,(x,aa)∈scope.names->X.env.scope.names.lookup x=some et\/X.env.scope.names.lookup x=some aa)
  (hk:scope.kind = .function) (hcell:∀ y∈scope.names,y.2 ≠ .cell) (hnames:∀ y∈scope.names,y.2 = .local->scope.names.lookup y.1=some .local)
  (hs:∀ x,foldedSetIterable iter X.env x=pure x) (hsw:swapsWithSole [.Name x pos'] (.ListComp elt [⟨tg,iter,ifs,0⟩] scope pos) apos.line X.env=pure true) (hf:X.fn x=true\/X.env.scope.names.lookup x=some .local) :
  PS X (.Assign [.Name x pos'] (.ListComp elt [⟨tg,iter,ifs,0⟩] scope pos) apos) (rN (dj src wi g tt te) (YE i)):=by
 intro pins s σ H D0 I h;obtain ⟨cl,hcl,a,b⟩:=UA X.env scope fun x hx=>I.ok.has x (hfree x hx)
 rw [exec_Assign_arm];refine Θ (wpAny_standAt ?_);rw [hsw];refine Θ (Ψ ?_);rw [if_pos rfl];refine Θ ?_;rw [arm_evalThenUse_ListComp];refine Θ ?_;refine wpAny_comprehension_free (use:=some _) rfl hs hcl hk hnames (aG (hi pins s σ H _ I h) fun v s1 h1=>aG h1 fun itv s2 h2=>?_);exact GP (Po:=fun v C=>compPost (γ X.prog X.w) X.A X.xe (some fun v=>assignAll v ((ge [.Name x pos'] X.env).map (·.2))) (fun _ s'=>Ξ (γ X.prog X.w) X.A (pure PUnit.unit) (fun _ s'=>Ξ (γ X.prog X.w) X.A (pure Flow.next) (SP X pins D0) X.xe s') X.xe s') v C) (Z:=fun _ _ _ _ _ _ _=>False) hcap hc (hg cl) (ht cl) (he cl) hk hcell a b h2 (T4 hN hix hlx hf) fun _ _ _ _ _ _ _ _ z=>z.elim
end
def YJ {α:Type}:Sem α->Prop
 | .pure _=>True
 | .raise _=>True
 | .unsupported _=>True
 | .rule _ k=>YJ (k ())
 | .at _ k=>YJ (k ())
 | .load _ _ k=>∀ o,YJ (k o)
 | .update _ _ f k=>(∀ o:Obj,(f o).dict=o.dict/\(f o).isFreed=o.isFreed)/\YJ (k ())
 | .alloc _ k=>∀ a,YJ (k a)
 | .stack k=>∀ x,YJ (k x)
 | _=>False
def Wc (h:Heap) (e:Addr) (dc:Option Addr):Prop:=∃ o,h.get? e=some o/\o.dict=dc
theorem T6 {α β:Type} {f:α->Sem β} (m:Sem α):YJ m->(∀ a,YJ (f a))->YJ (m.bind f):=by
 induction m with
 | pure a=>intro _ hf;exact hf a
 | raise e=>intro _ _;simp only [gN,YJ]
 | unsupported e=>intro _ _;simp only [gN,YJ]
 | rule n k ih=>intro h hf;simp only [YJ] at h;simp only [gN,YJ];exact ih () h hf
 | «at» n k ih=>intro h hf;simp only [YJ] at h;simp only [gN,YJ];exact ih () h hf
 | load a b k ih=>intro h hf;simp only [YJ] at h;simp only [gN,YJ];exact fun o=>ih o (h o) hf
 | update a b g k ih=>intro h hf;simp only [YJ] at h;simp only [gN,YJ];exact ⟨h.1,ih () h.2 hf⟩
 | alloc a k ih=>intro h hf;simp only [YJ] at h;simp only [gN,YJ];exact fun o=>ih o (h o) hf
 | stack k ih=>intro h hf;simp only [YJ] at h;simp only [gN,YJ];exact fun o=>ih o (h o) hf
 | _=>intro h;simp only [YJ] at h
theorem T7 {M:Model} {Γ:PySem.Ctx} {α:Type} {Q:α->Pos->Δ->Prop} {E:Α->Pos->Δ->Prop} {e:Addr} {dc:Option Addr} (t:Sem α):YJ t->∀ (p:Pos) (s:Δ),gt M Γ t Q E p s->Wc s.heap e dc->gt M Γ t (fun a p s'=>Q a p s'/\Wc s'.heap e dc) (fun v p s'=>E v p s'/\Wc s'.heap e dc) p s:=by
 induction t with
 | pure a=>intro _ p s h d;simp only [gt] at h ⊢;exact ⟨h,d⟩
 | raise a=>intro _ p s h d;simp only [gt] at h ⊢;exact ⟨h,d⟩
 | unsupported a=>intro _ p s h d;simp only [gt] at h
 | rule n k ih=>intro t p s h d;simp only [YJ] at t;simp only [gt] at h ⊢;exact ih () t p s h d
 | «at» n k ih=>intro t p s h d;simp only [YJ] at t;simp only [gt] at h ⊢;exact ih () t n s h d
 | load a b k ih=>intro t p s h d;simp only [YJ] at t;simp only [gt] at h ⊢;obtain ⟨o,h1,h2⟩:=h;exact ⟨o,h1,ih o (t o) p s h2 d⟩
 | update a b f k ih =>
  intro t p s h d;simp only [YJ] at t;simp only [gt] at h ⊢;obtain ⟨o,d1,d2⟩:=d;refine ⟨h.1,ih () t.2 p _ h.2 ?_⟩;by_cases c:a=e
  ·subst c
   exact ⟨f o,dS f d1 (by rw [(t.1 o).2];exact (Heap.get?_some_iff.mp d1).2),by rw [(t.1 o).1];exact d2⟩
  ·exact ⟨o,(du _ _ c).trans d1,d2⟩
 | alloc a k ih=>intro t p s h d;simp only [YJ] at t;simp only [gt] at h ⊢;obtain ⟨o1,d1,d2⟩:=d;exact ih _ (t _) p _ h ⟨o1,Η _ d1,d2⟩
 | stack k ih=>intro t p s h d;simp only [YJ] at t;simp only [gt] at h ⊢;exact ih _ (t _) p s h d
 | _=>intro t;simp only [YJ] at t
theorem T8 {M:Model} {A:τ} {α:Type} {t:Sem α} {Q:α->Δ->Prop} {E:Α->Δ->Prop} {s:Δ} {e:Addr} {dc:Option Addr} (T:YJ t) (d:Wc s.heap e dc) (h:Ξ M A t Q E s):Ξ M A t (fun a s'=>Q a s'/\Wc s'.heap e dc) (fun v s'=>E v s'/\Wc s'.heap e dc) s :=
 fun Γ p hΓ=>T7 t T p s (h Γ p hΓ) d
theorem YR {α β:Type} {m:Sem α} {f:α->Sem β} (h:YJ m) (hf:∀ a,YJ (f a)):YJ (m >>= f):=T6 m h hf
theorem Vg {α:Type} (a:α):YJ (pure a:Sem α):=trivial
theorem T9 {α:Type} (x:String):YJ (unsupported x:Sem α):=trivial
theorem Yck:YJ stack:=fun _=>trivial
theorem Yel (a:Addr) (f:Obj->Obj) (h:∀ o:Obj,(f o).dict=o.dict/\(f o).isFreed=o.isFreed):YJ (update a f):=⟨h,trivial⟩
theorem QJ (v:Α):YJ (fieldsOf v):=by
 unfold fieldsOf
 cases v<;>first | trivial | skip
 refine YR (fun o=>trivial) fun o=>?_
 cases o.data<;>trivial
theorem Wx (v:Α) (i:Nat):YJ (field v i):=by
 unfold field;refine YR (QJ v) fun vs=>?_
 cases vs[i]?<;>trivial
theorem Nj (f:Array Α->Array Α) (o:Obj):(Obj.mapFields f o).dict=o.dict/\(Obj.mapFields f o).isFreed=o.isFreed:=by
 obtain ⟨c,d,dt,sl⟩:=o
 cases dt<;>exact ⟨rfl,rfl⟩
theorem Uj (a:Addr) (i:Nat) (v:Α):YJ (updateField a i v):=by
 unfold updateField;refine YR (fun o=>trivial) fun o=>?_
 cases o.data with
 | fields vs =>
  dsimp only
  split
  ·exact ⟨Nj _,trivial⟩
  ·trivial
 | _=>trivial
theorem XX (v:Α) (i:Nat) (x:Α):YJ (setField v i x):=by
 unfold setField
 cases v<;>first | trivial | exact Uj _ _ _
theorem U4 (v:Α) (f:Option Addr):YJ (setFlight v f):=by
 unfold setFlight;refine YR (Wx _ _) fun tb=>?_
 split
 ·exact XX _ _ _
 ·trivial
theorem QK (env:Env) (b:Bool) (l:List Env):YJ (keptBack env b l):=by
 cases l with
 | nil =>
  rw [keptBack];by_cases c:(env.scope.isGenerator||env.scope.isCoroutine)=true
  ·rw [if_pos c];exact Vg _
  ·rw [if_neg c]
   refine YR ?_ fun x=>Vg _
   unfold underTheClaimsCaller;exact YR Yck fun x=>Vg _
 | cons x r=>rw [keptBack];exact Vg _
theorem UE:∀ l:List Env,YJ (readyFrames l)
 | []=>trivial
 | env::outer=>by
  unfold readyFrames
  cases env.frame with
  | none=>trivial
  | some f =>
   dsimp only;refine YR (fun o=>trivial) fun o=>?_
   split
   ·trivial
   ·refine YR ?_ fun b=>YR (QK _ _ _) fun k=>YR (Yel _ _ fun o=>by obtain ⟨c,d,dt,sl⟩:=o;cases dt<;>exact ⟨rfl,rfl⟩) fun _=>UE outer
    unfold behindIsImport
    split
    ·trivial
    ·split
     ·trivial
     ·exact YR (Wx _ _) fun x=>trivial
theorem VF (env:Env):YJ (PySem.frameOf env):=by
 unfold PySem.frameOf frameEnvs;refine YR (YR (fun x=>trivial) fun x=>trivial) fun l=>?_
 generalize l.dropWhile _=l';refine YR ?_ fun r=>?_
 ·cases l' with
  | nil=>trivial
  | cons x r =>
   unfold frameObject;exact YR (UE _) fun _=>trivial
 ·cases r<;>trivial
theorem U5 (ty:String) (vs:List Α):YJ (newFields ty vs):=by
 unfold newFields newObj;dsimp only
 split
 ·exact YR (T9 _) fun _=>YR (fun _=>trivial) fun _=>Vg _
 ·exact YR (m:=alloc _) (fun _=>trivial) fun _=>Vg _
theorem Vv (a b c d e:Α) (pl:List Α):YJ (EntryCells.newEntry a b c d e pl):=U5 _ _
theorem UF (f:Addr) (b:Bool):YJ (entryPlaceOf f b):=by
 unfold entryPlaceOf;refine YR (fun x=>trivial) fun l=>?_
 split<;>trivial
theorem U6 (e:Α) (env:Env):YJ (noteFrame e env):=by
 unfold noteFrame
 cases env.frame with
 | none=>trivial
 | some f =>
  dsimp only;refine YR (Wx _ _) fun hd=>?_
  split
  ·refine YR (Wx _ _) fun x=>?_
   split
   ·trivial
   ·exact YR (XX _ _ _) fun _=>YR (VF _) fun _=>YR (UF _ _) fun _=>YR (Vv _ _ _ _ _ _) fun _=>XX _ _ _
  ·exact YR (VF _) fun _=>YR (UF _ _) fun _=>YR (Vv _ _ _ _ _ _) fun _=>XX _ _ _
theorem Yao (env:Env) (e:Α):YJ (leaving env e):=by
 unfold leaving;exact YR (U6 _ _) fun _=>U4 _ _
structure mq (P:Ο) (w:ε) (l:List Env) (H:Hp) (h:Heap) (e:Addr) (cls:Α) (H':Hp) (h' B:Heap):Prop where
 fl:∃ a0,Heap.FlyingW B l e cls a0 h'
 hok:aX P w H' B
 keep:∀ b o,h.get? b=some o->H b=none->b∉frs l->B.get? b=some o
 slot:∀ b o,h.get? b=some o->H b=none->b∈frs l->∃ sl,h'.get? b=some { o with slots:=sl }
 al:∀ b o,h.get? b=some o->b∉frs l->∃ o',B.get? b=some o'
 free:∀ b o,h.get? b=some o->H b=none->H' b=none
 tups:∀ b xs,H b=some (.tup xs)->H' b=some (.tup xs)
 bI:∀ b o u,H b=some (.bF o u)->H' b=some (.bF o u)
 bU:∀ b ps,H b=some (.aN ps)->∃ more,H' b=some (.aN (ps++more))
section
variable {X:Cx} {pins:List (Addr×Obj)} {σ:St} {H H':Hp} {s s':Δ} {h' B:Heap} {e:Addr} {cls:Α} {M:Model} {A:τ} {Q:Unit->Δ->Prop} {EE:Α->Δ->Prop}
theorem Inv.Nk (I:Inv X pins σ H s) {b:Addr} {o:Obj} (q:X.s₀.heap.get? b=some o):b≠X.env.locals:=υ (ρ (Ρ q) I.ok.above)
theorem Inv.oO (I:Inv X pins σ H s) (hf:X.env.frame=some X.env.locals) {b:Addr} {o:Obj} (q:X.s₀.heap.get? b=some o) (n:b∉X.fs):b∉frs (X.env::X.outer):=fun z=>by
 unfold frs at z;rw [ci,hf] at z
 rcases Υ.mp z with z | z
 ·exact I.Nk q z
 ·exact n z
theorem Inv.Ef (I:Inv X pins σ H s) (hf:X.env.frame=some X.env.locals) {b:Addr} (n:b∈X.fs):b∈frs (X.env::X.outer):=by
 unfold frs;rw [ci,hf];exact bq _ n
theorem Inv.qU (I:Inv X pins σ H s) (hs:X.stack=X.env::X.outer) (hf:X.env.frame=some X.env.locals) (hex:X.ex=[]) (hA:A.frames=some (X.env::X.outer)) (F:mq X.prog X.w X.stack H s.heap e cls H' s'.heap B) {dc:Option Addr} (hd:Wc s'.heap e dc)
  (hQ:∀ h'',mq X.prog X.w X.outer X.H₀ X.s₀.heap e cls H' h'' B->Wc h'' e dc->Q () { s' with heap:=h'' }):Ξ M A (leaving X.env (.ref e)) Q EE s':=by
 have nx:∀ b:Addr,b∉X.ex:=by
  rw [hex];intro b z
  cases z
 rw [hs] at F
 obtain ⟨a0,fl⟩:=F.fl;refine bo (T8 (Yao _ _) hd (wpAny_leaves_onW (Q:=fun _ s2=>∃ h'',s2={ s' with heap:=h'' }/\mq X.prog X.w X.outer X.H₀ X.s₀.heap e cls H' h'' B) hA hf fl fun h'' x1 x2=>⟨h'',rfl,?_⟩)) (fun _ s2 z=>by
  obtain ⟨⟨h'',rfl,F⟩,d⟩:=z;exact hQ h'' F d) fun _ _ z=>z.1
 refine ⟨⟨_,x1⟩,F.hok,fun b o q n nb=>F.keep b o (I.base.keep b o q n nb (nx b)) (I.base.free b o q n (nx b)) (I.oO hf q nb),fun b o q n hb=>?_,fun b o q nb=>?_,fun b o q n=>?_,fun b xs q=>F.tups b xs (I.base.tups b xs q),fun b o u q=>F.bI b o u (I.base.bI b o u q),fun b ps q=>?_⟩
 ·obtain ⟨sl,e1⟩:=I.base.slot b o q n hb (nx b)
  obtain ⟨sl1,e2⟩:=F.slot b _ e1 (I.base.free b o q n (nx b)) (I.Ef hf hb);obtain ⟨_,o',e',d⟩:=I.ok.cj.mem hb;rw [q] at e'
  cases e'
  obtain ⟨sl',e3⟩:=x2 b _ e2 d;exact ⟨sl',e3⟩
 ·obtain ⟨o',e1⟩:=I.base.there b o q (nx b)
  exact F.al b o' e1 (I.oO hf q nb)
 ·obtain ⟨o',e1⟩:=I.base.there b o q (nx b)
  exact F.free b o' e1 (I.base.free b o q n (nx b))
 ·obtain ⟨m1,e1⟩:=I.base.bU b ps q
  obtain ⟨m2,e2⟩:=F.bU b _ e1;exact ⟨m1++m2,by rw [e2,Array.append_assoc]⟩
end
def jF (P:Ο) (w:ε):dh:=fun l H s E e s'=>∃ (a:Addr) (cls:Α) (H':Hp) (B:Heap) (dc:Option Addr),e = .ref a/\s'.os=s.os/\f7 s'.gens/\mq P w l H s.heap a cls H' s'.heap B/\Wc s'.heap a dc/\E cls dc H'
abbrev Gx.cL (g:Gx) (N:List Str) (qual:Str) (st:Stmt) (f:Addr) (cdv:Α) (A:τ) (outer:List Env) (s:Δ) (H:Hp) (E:XK):Cx:=Wu (jF g.P g.w) g.P g.w g.K g.mg g.base N qual (Yi st) f cdv A outer s H E
section
variable {g:Gx} {N:List Str} {qual:Str} {st:Stmt} {f:Addr} {cdv:Α} {A:τ} {outer:List Env} {s:Δ} {H:Hp} {E:XK}
theorem Eh:Wa (jF g.P g.w) (g.cL N qual st f cdv A outer s H E) E:=by
 intro pins σ H1 s1 e s' I hq;obtain ⟨a,cls,H',B,dc,he,os,bare,F,hd,q⟩:=hq;subst he;exact I.qU rfl rfl rfl I.ok.frames F hd fun h'' F' hd'=>⟨a,cls,H',B,dc,rfl,os.trans I.os,bare,F',hd',q⟩
end
def Gx.gq (g:Gx) (k:Nat) (x:Str) (ps:List Str) (sp:Sp):Prop:=∃ f fd,aY g.P g.w g.K g.mg g.base (jF g.P g.w) k f fd ps sp/\Xq g.K fd ps []/\ef g.K (.ref f)=true/\g.mg x=some (.ref f)
section
variable {g:Gx} {k:Nat} {x qual m:Str} {st:Stmt} {N ps:List Str} {sp:Sp} {C:Addr}
theorem Gx.gq.mono {j:Nat} (F:g.gq j x ps sp) (h:j<=k):g.gq k x ps sp:=by
 obtain ⟨f,fd,F,r⟩:=F;exact ⟨f,fd,F.mono h,r⟩
end
section
variable {g:Gx} {X:Cx} {k j:Nat} {x:Str} {ps:List Str} {sp:Sp} {E:XK} {e:Expr} {es:List Expr} {t:TA} {p pos cpos np:Pos}
theorem YgO (F:g.gq j x ps sp) (hr:aM k X.A) (hp:Wa (jF g.P g.w) X E) (ha:PA X (e::es) t) (hj:j<=k) (hX:X.gx=g) (hg:Gl X x) (hdb:(x==("__debug__":Str))=false)
  (he:Φ (e::es) X.env=(false,eval e X.env)::Φ es X.env) (hpl:(bv pos (Φ es X.env)).any (·.1)=false):PE X (.Call (.Name x p) (e::es) [] pos) (Vl sp [] E t):=by
 subst hX;obtain ⟨f,fd,F,b,kp,hm⟩:=F;exact Ge F (hr.mono hj) hg hm kp b .nil hp ha hdb he hpl
theorem PS.dI {st:Stmt} {t:TS} (h:PS X.dI st t):PS X st t:=fun pins s σ H D I hw =>
 bo (h pins s σ H D (I.wish _) hw) (fun _ _ q=>q.cA) fun _ _ z=>bi z
def Hv (C:Addr) (E:XK) (t:TA):TS:=fun _ σ H=>t σ H fun vs H1=>vs.length<=sizeLine/\E (.ref C) none H1
end
def wW (K:Κ) (cv:Α) (sp:Sp) (t:TA) (i:Nat) (ts:TS):TS:=fun D σ H=>t σ H fun vs H1=>sp (vs++[]) H1 (fun v H2=>D.nx (σ.set i (some v)) H2) (fun cls _ H2=>W.exmOne K cls cv=some true/\ts D σ H2)
def U7 (k:Nat) (G:Hp->List V->Prop):It :=
 ⟨fun i H=>∃ xs x,G H xs/\xs[i]?=some x,fun i H v H'=>∃ T,v = .ref T/\H T=none/\∀ xs x,G H xs->xs[i]?=some x->H'=upd H T (.tup [.int ((i+k:Nat):Int),x]),fun i H=>∃ xs,G H xs/\xs.length=i⟩
theorem Ub {P:Ο} {w:ε} {A:τ} {it:Addr} {fp:List Addr} {n:Nat} {R:Nat->Α->Prop} {St:Nat->Heap->Prop} (D:Draws P w A it fp n R St) (k:Nat) :
  Draws P w A it fp (n+k) (fun i v=>∃ j,i=j+k/\R j v) (fun i h=>∃ j,i=j+k/\St j h) where
 live:=fun i h ⟨j,_,st⟩=>D.live j h st
 frame:=fun i h h' ⟨j,e,st⟩ q=>⟨j,e,D.frame j h h' st q⟩
 item:=fun i s Q E hi ⟨j,e,st⟩ hQ=>by
  subst e;exact D.item j s Q E (by omega) st fun x h' tk p st' sb=>hQ x h' tk ⟨j,rfl,p⟩ ⟨j+1,by omega,st'⟩ sb
 done:=fun s Q E ⟨j,e,st⟩ hE=>by
  have:j=n:=by omega
  subst this;exact D.done s Q E st hE
theorem Ydp {P:Ο} {w:ε} {K:Κ} {elts:List Expr} {kk:Nat} {pos:Pos} {a e it:Addr} {k:Nat} {G:Hp->List V->Prop} {inner:Nat->Heap->Prop} (ne:e≠it) (na:e≠a)
  (obj:∀ i h,inner i h->∃ o,h.get? it=some o/\∀ v,o.data ≠ .cell v) (keep:∀ i h h',inner i h->(∀ o,h.get? it=some o->h'.get? it=some o)->inner i h')
  (inj:∀ (X:Cx) pins σ H s xs ys,X.prog=P->X.w=w->X.K=K->Inv X pins σ H s->G H xs->G H ys->xs=ys)
  (dr:∀ (X:Cx) pins σ H s xs i,X.prog=P->X.w=w->X.K=K->X.calm=true->Inv X pins σ H s->G H xs->inner i s.heap->∃ its:List Α,Yw xs its/\∃ St:Nat->Heap->Prop,Draws P w X.A.in1 it [it,a] its.length (fun i v=>its[i]?=some v) St/\St i s.heap/\∀ i h,St i h->inner i h) :
  Turn P w K (.Tuple elts kk pos) (U7 k G) [e,it] e (fun i h=>(∃ old,IsEnum h e it ((i+k:Nat):Int) old)/\inner i h) where
 mem:=by simp
 obj:=fun i h ⟨⟨old,he⟩,hi⟩ c hc=>by
  simp only [Υ,a7,or_false] at hc;rcases hc with rfl | rfl
  ·exact ⟨_,he,fun v z=>by cases z⟩
  ·exact obj i h hi
 keep:=fun i h h' ⟨⟨old,he⟩,hi⟩ q=>⟨⟨old,q e (by simp) _ he⟩,keep i h h' hi fun o z=>q it (by simp) o z⟩
 item:=by
  intro X hP hw hK hc i pins s σ H E I hf ⟨⟨old,he⟩,hi⟩ hg;obtain ⟨xs,x,g1,hx⟩:=hg;obtain ⟨its,rv,St,D,hst,hin⟩:=dr X pins σ H s xs i hP hw hK hc I g1 hi;subst hP hw hK;have hlen:=rv.length;have hil:i<xs.length:=(Ι.mp hx).1;refine wpAny_pyNext_enum_itemD (Ub D k) he ⟨i,rfl,hst⟩ (by omega) ne (fun z=>?_) fun u h1 tk hu ho hi1 hT hsz kp=>?_
  ·simp only [Υ,a7,or_false] at z
   rcases z with z | z
   ·exact ne z
   ·exact na z
  refine ⟨_,rfl,?_⟩;refine wpAny_letOwnedTupleGo_enum (s:={ s with heap:=h1,toks:=tk+1 }) ho fun h2 he2 sb=>?_
  have elt:e<s.heap.objs.size:=Ρ he;have ilt:it<s.heap.objs.size:=by obtain ⟨o,q,_⟩:=obj i _ hi;exact Ρ q
  have wK:∀ c o,c∉[e,it]->s.heap.get? c=some o->h2.get? c=some o:=fun c o hm z=>by
   have c1:c≠e:=fun q=>hm (by simp [q])
   have c2:c≠it:=fun q=>hm (by simp [q])
   exact sb.extBut c o c1 (kp c o c1 c2 z)
  obtain ⟨j,ej,hu⟩:=hu;have ej:j=i:=by omega
  subst ej;obtain ⟨u',hu',ru⟩:=rv.get hx;rw [hu] at hu'
  cases hu'
  have hT2:h2.get? s.heap.objs.size=some { cls := .type "tuple",data := .seq #[.int ((j+k:Nat):Int) tk,u] }:=sb.extBut _ _ (ek elt) hT;have I':=I.mj (t':=tk+1) (h':=h2) (T:=s.heap.objs.size) (vs:=[.int ((j+k:Nat):Int),x]) wK hf (Μ _) (show YN X.prog X.w _ h2 _ (.tup [.int ((j+k:Nat):Int),x]) from ⟨by show 2<=sizeLine;decide,[.int ((j+k:Nat):Int) tk,u],.cons ⟨_,rfl⟩ (.cons ru .nil),_,hT2,rfl,_,rfl⟩);have fresh:H s.heap.objs.size=none:=I.hok.fresh (Μ _);obtain ⟨j',Hw,st'⟩:=hi1;have Hw:j'=j+1:=by omega
  subst Hw;refine ⟨.ref s.heap.objs.size,_,I',rfl,⟨_,rfl,fresh,fun xs' x' wL hx'=>?_⟩,⟨⟨u,?_⟩,keep _ _ _ (hin _ _ st') fun o z=>sb.extBut _ _ (ω ne) z⟩,fun c hm=>?_⟩
  ·rw [inj X pins σ H s _ _ rfl rfl rfl I wL g1,hx] at hx'
   cases hx'
   rfl
  ·have e2:(((j+1+k:Nat)):Int)=((j+k:Nat):Int)+1:=by omega
   rw [e2];simpa using he2
  ·have h0:=(hf c hm).1
   have wM:c<s.heap.objs.size:=by
    simp only [Υ,a7,or_false] at hm;rcases hm with rfl | rfl
    ·exact elt
    ·exact ilt
   rw [Yg (υ wM)];exact h0
 done:=by
  intro X hP hw hK hc i pins s σ H E I hf ⟨⟨old,he⟩,hi⟩ hg;obtain ⟨xs,g1,hx⟩:=hg;obtain ⟨its,rv,St,D,hst,hin⟩:=dr X pins σ H s xs i hP hw hK hc I g1 hi;subst hP hw hK;have hlen:=rv.length;obtain ⟨f0,f1,f2,f3,f4,f5⟩:=hf it (by simp);exact wpAny_pyNext_enum_endD (Ub D k) he ⟨i,by omega,hst⟩ fun h' eb=>⟨rfl,I.turned (t':=s.toks) (fun b o hb z=>eb b o hb z) f0 f1 f3 f4 f5⟩
 self:=fun _ _ _ _ _ ⟨⟨_,he⟩,_⟩ h=>gh he h
section
variable {prog:Ο} {w:ε} {A:τ} {E:Α->Δ->Prop} {s:Δ}
theorem Ycl {it t:Addr} {i:Nat} {its:Array Α} {x:Α} {Q:Α->Δ->Prop} (hit:hR s.heap it t i) (ht:IsTup s.heap t its) (hx:its[i]?=some x)
  (hQ:∀ h',hR h' it t (i+1)->cp it s.heap h'->Q x { s with heap:=h' }):Ξ (γ prog w) A (br (.ref it)) Q E s:=by
 have hT:=hit.typeIs;obtain ⟨o,ho,hc,hd⟩:=hit;obtain ⟨ot,hot,_,nt,hdt⟩:=ht;unfold br;refine Θ (df (name:=bp "__next__") hT fc (c8 fc hT entry_tupleiter_next ?_ (args_tupleiter_next _)))
 change Ξ _ _ (field (.ref it) 0 >>= _) _ _ s
 refine Θ (cr (x := .ref t) ho hd rfl ?_)
 change Ξ _ _ (if (ac t==bE)=true then _ else _) _ _ s
 rw [if_neg (show ¬ (ac t==bE)=true from ζ)]
 change Ξ _ _ (field (.ref it) 1 >>= _) _ _ s
 refine Θ (cr (x := .int i 0) ho hd rfl ?_)
 change Ξ _ _ (seqItems? (.ref t) >>= _) _ _ s
 refine Θ (eL hot hdt ?_);simp only [hx,d6];refine Θ (wpAny_setField ho hd (by simp) (Ψ ⟨x,rfl,Ψ (hQ _ ⟨_,dS _ ho (Obj.isFreed_of_fields (Obj.data_mapFields hd _)),(Obj.cls_mapFields ..).trans hc,?_⟩ (Heap.SameBut.update ..))⟩));rw [Obj.data_mapFields hd];simp [cy]
theorem Ydq {it t:Addr} {i:Nat} {its:Array Α} {Q:Α->Δ->Prop} (hh:A.handled=none) (hit:hR s.heap it t i) (ht:IsTup s.heap t its) (hx:its[i]?=none)
  (hE:∀ h' e,Heap.ExtBut it s.heap h'->(∃ o,h'.get? e=some o/\o.cls = .type "StopIteration")->E (.ref e) { s with heap:=h' }):Ξ (γ prog w) A (br (.ref it)) Q E s:=by
 have hT:=hit.typeIs;obtain ⟨o,ho,hc,hd⟩:=hit;obtain ⟨ot,hot,_,nt,hdt⟩:=ht;unfold br;refine Θ (df (name:=bp "__next__") hT fc (c8 fc hT entry_tupleiter_next ?_ (args_tupleiter_next _)))
 change Ξ _ _ (field (.ref it) 0 >>= _) _ _ s
 refine Θ (cr (x := .ref t) ho hd rfl ?_)
 change Ξ _ _ (if (ac t==bE)=true then _ else _) _ _ s
 rw [if_neg (show ¬ (ac t==bE)=true from ζ)]
 change Ξ _ _ (field (.ref it) 1 >>= _) _ _ s
 refine Θ (cr (x := .int i 0) ho hd rfl ?_)
 change Ξ _ _ (seqItems? (.ref t) >>= _) _ _ s
 refine Θ (eL hot hdt ?_);simp only [hx,d6];refine Θ (iX (Θ (wpAny_setField ho hd (by simp) ?_)))
 change Ξ _ _ (newExc (.type "StopIteration") [] >>= _) _ _ _
 refine Θ ?_;simp only [newTuple,newExc];refine Θ (b9 ?_ (by size_fits));refine Θ (m:=iA _ _) (wpAny_of_eq (a:=bE) (by first | (simp only [iA];rfl) | rfl) ?_);refine b9 ?_ (by size_fits);simp only [raiseNew];refine Θ (wpAny_handled ?_)
 first | rw [hh] | rw [show A.in1.handled=none from hh]
 exact Θ (Ψ (wpAny_throw (hE _ _ (((Heap.SameBut.update ..).extBut.push _).push _) ⟨_,Ω _ rfl,rfl⟩)))
theorem Ydr (hh:A.handled=none) (it t:Addr) (ne:t≠it) (its:Array Α):Draws prog w A it [it,t] its.size (fun i v=>its[i]?=some v) (fun i h=>hR h it t i/\IsTup h t its) where
 live:=fun _ _ st=>let ⟨o,ho,_⟩:=st.1;⟨o,ho⟩
 frame:=fun _ _ _ st hk=>⟨let ⟨o,ho,r⟩:=st.1;⟨o,hk it (by simp) o ho,r⟩,let ⟨o,ho,r⟩:=st.2;⟨o,hk t (by simp) o ho,r⟩⟩
 item:=fun i s Q E hi st hQ=>by
  refine Ycl st.1 st.2 (x:=its[i]) (by simp [hi]) fun h' hit' hs'=>?_
  exact hQ _ h' s.toks (by simp [hi]) ⟨hit',let ⟨o,ho,r⟩:=st.2;⟨o,hs'.extBut t o ne ho,r⟩⟩ hs'
 done:=fun s Q E st hE=>Ydq hh st.1 st.2 (by simp) hE
open AutoSeq1 (wpAny_loadPart') in
theorem YaW (l:Addr) (o:Obj) (its:Array Α) (n:Nat) (hc:o.cls = .type "tuple") (hd:o.data = .seq its n) :
  Meets (Builtin.«enumerate.__new__» ⟨[.type "enumerate",.ref l],[]⟩) (fun _ R s=>s.heap.get? l=some o /\
   R (.ok (.ret (.ref (s.heap.push { cls := .type "tuple_iterator",data := .fields #[.ref l,.int 0 0] }).objs.size)))
    { s with heap:=(s.heap.push { cls := .type "tuple_iterator",data := .fields #[.ref l,.int 0 0] }).push { cls := .type "enumerate",data := .fields #[.none,.bool false,.ref s.heap.objs.size,cy 0,.none,.none] } }) :=
 .of_wp fun prog w A R s h=>by
  obtain ⟨hp,g,d,tk,os⟩:=s;obtain ⟨hl,h⟩:=h;have hsub:=sub_enumerate;have hL:IsTup (Shared.heap ⟨hp,g,d,tk,os⟩) l its:=⟨o,hl,hc,n,hd⟩
  wp_walk using wpAny_loadPart' hl
  refine wpAny_stack_any fun st=>Ψ ?_
  split
  ·rename_i c _ _ _ _ _
   cases (c==eQ "enumerate")
   ·wp_walk using wpAny_loadPart' hl,iter_tuple hL
    exact ⟨_,rfl,h⟩
   ·wp_walk using wpAny_loadPart' hl,iter_tuple hL
    exact ⟨_,rfl,h⟩
  ·wp_walk using wpAny_loadPart' hl,iter_tuple hL
   exact ⟨_,rfl,h⟩
theorem Ycm {l:Addr} {its:Array Α} {Q:Α->Δ->Prop} (hL:IsTup s.heap l its)
  (h:∀ h',IsEnum h' (s.heap.objs.size+1) s.heap.objs.size 0 .none->hR h' s.heap.objs.size l 0->(∀ b o,s.heap.get? b=some o->h'.get? b=some o)->Q (.ref (s.heap.objs.size+1)) { s with heap:=h' }) :
  Ξ (γ prog w) A (call (.type "enumerate") [.ref l]) Q E s:=by
 obtain ⟨o,hl,hc,n,hd⟩:=hL;refine callType_new F.called_enumerate (by decide) (F.typeCall_enumerate_1 _) (F.newCall_enumerate_1 _) (fun obj=>F.args_object_init_2 obj _) F.entry_enumerate_new (YaW l o its n hc hd) ⟨hl,?_⟩;have hz:(s.heap.push { cls := .type "tuple_iterator",data := .fields #[.ref l,.int 0 0] }).objs.size=s.heap.objs.size+1:=di ..
 change _/\_
 rw [hz];have he:IsEnum ((s.heap.push { cls := .type "tuple_iterator",data := .fields #[.ref l,.int 0 0] }).push { cls := .type "enumerate",data := .fields #[.none,.bool false,.ref s.heap.objs.size,cy 0,.none,.none] }) (s.heap.objs.size+1) s.heap.objs.size 0 .none:=by
  have z:=Ω (s.heap.push { cls := .type "tuple_iterator",data := .fields #[.ref l,.int 0 0] }) (o:={ cls := .type "enumerate",data := .fields #[.none,.bool false,.ref s.heap.objs.size,cy 0,.none,.none] }) rfl;rw [hz] at z
  exact z
 exact ⟨⟨_,he,rfl⟩,h _ he ⟨_,Η _ (Ω _ rfl),rfl,rfl⟩ fun b o x=>Η _ (Η _ x)⟩
end
section
variable {X:Cx} {elts:List Expr} {kk:Nat} {tpos:Pos}
theorem Ycn {P:Ο} {w:ε} {K:Κ} {pos:Pos} {a e it:Addr} (ne:e≠it) (na:e≠a) (nt:a≠it) :
  Turn P w K (.Tuple elts kk pos) (U7 0 fun H xs=>aq K H a xs) [e,it] e (fun i h=>(∃ old,IsEnum h e it ((i+0:Nat):Int) old)/\hR h it a i):=by
 refine Ydp ne na (fun i h ⟨o,q,_,d⟩=>⟨o,q,fun v z=>by rw [d] at z;cases z⟩) (fun i h h' ⟨o,q,r⟩ k=>⟨o,k o q,r⟩) (fun X pins σ H s xs ys hP hw hK I g1 g2=>?_) (fun X pins σ H s xs i hP hw hK hc I g1 hi=>?_)
 ·subst hP hw hK
  exact I.iH g1 g2
 ·subst hP hw hK
  obtain ⟨its,rv,pl,hz⟩:=I.tuple g1;refine ⟨its,rv,fun i h=>hR h it a i/\IsTup h a its.toArray,by simpa using Ydr (prog:=X.prog) (w:=X.w) (A:=X.A.in1) (I.ok.hd hc) it a nt its.toArray,⟨hi,pl⟩,fun i h st=>st.1⟩
def Hx (K:Κ) (ta:TA):TI:=fun σ H R=>ta σ H fun vs H1=>∃ a xs,vs=[.ref a]/\aq K H1 a xs/\R (U7 0 fun H xs=>aq K H a xs) H1
theorem Yem {a:Expr} {ta:TA} {p pos:Pos} (hg:Gl X "enumerate") (hm:X.mg "enumerate"=none) (ha:PA X [a] ta) (hs:Φ [a] X.env=[(false,eval a X.env)]) :
  PI X (.Tuple elts kk tpos) (.Call (.Name "enumerate" p) [a] [] pos) (Hx X.K ta):=by
 intro pins s σ H R I h;refine Call_ (XT I hg hm boot_enumerate (be (aG (ha pos pins s σ H _ I h) fun us s1 hz=>?_) hs rfl));obtain ⟨vs,H1,I1,r1,x,xs,e,hx,q⟩:=hz;subst e;obtain ⟨u,rfl,ru⟩:=X8 r1
 cases ru
 obtain ⟨i1,_,pl,_⟩:=I1.tuple hx;have l1:x<s1.heap.objs.size:=by obtain ⟨_,e,_⟩:=pl;exact Ρ e
 refine Ycm pl fun h' he hi keep=>?_
 refine gh he ?_;have I2:Inv X pins σ H1 { s1 with heap:=h' }:=I1.kept (t':=s1.toks) keep;have l1':@LT.lt Nat _ x s1.heap.objs.size:=l1;refine ⟨_,[s1.heap.objs.size+1,s1.heap.objs.size],_,_,H1,rfl,I2,Ycn (by intro z;have z':@Eq Nat _ _:=z;omega) (by intro z;have z':@Eq Nat _ _:=z;omega) (by intro z;have z':@Eq Nat _ _:=z;omega),⟨⟨_,he⟩,hi⟩,fun c hc=>?_,q⟩;have hle:s1.heap.objs.size<=c:=by
  simp only [Υ,a7,or_false] at hc;rcases hc with e | e<;>(have e':@Eq Nat _ _:=e;show @LE.le Nat _ s1.heap.objs.size c;omega)
 exact I1.dO hle (I1.hok.fresh hle)
end
section
variable {g:TG} {tb:TS} {D:Ends} {σ:St} {H:Hp}
theorem Yen {k:Nat} {G:Hp->List V->Prop} {xs:List V} (Pv:Nat->St->Hp->Prop) (h0:Pv 0 σ H) (hl:∀ i σ H,i<=xs.length->Pv i σ H->G H xs)
  (hs:∀ i x σ H T,xs[i]?=some x->Pv i σ H->H T=none->g (.ref T) σ (upd H T (.tup [.int ((i+k:Nat):Int),x])) fun σ2 H2=>tb { D with nx:=Pv (i+1),ct:=Pv (i+1),bk:=D.nx } σ2 H2) (hd:∀ σ H,Pv xs.length σ H->D.nx σ H) :
  ∃ W:Nat->Nat->St->Hp->Prop,(∃ m,W 0 m σ H)/\∀ i m σ H,W i m σ H ->
   ((U7 k G).stop i H/\D.nx σ H)\/((U7 k G).go i H/\∃ N:St->Hp->Prop,(∀ σ' H',N σ' H'->∃ m',m'<m/\W (i+1) m' σ' H')/\∀ x H',(U7 k G).fY i H x H'->g x σ H' fun σ2 H2=>tb { D with nx:=N,ct:=N,bk:=D.nx } σ2 H2):=by
 refine ⟨fun i m σ H=>m=xs.length - i/\i<=xs.length/\Pv i σ H,⟨xs.length,by simp,az _,h0⟩,?_⟩;rintro i m σ H ⟨rfl,hi,p⟩;have q:=hl i σ H hi p;by_cases hlt:i<xs.length
 ·have hx:xs[i]?=some xs[i]:=Χ hlt
  refine .inr ⟨⟨xs,_,q,hx⟩,Pv (i+1),fun σ' H' p'=>⟨xs.length - (i+1),by omega,rfl,hlt,p'⟩,?_⟩;rintro v H' ⟨T,rfl,hT,heq⟩;have e:=heq xs _ q hx;subst e;exact hs i _ σ H T hx p hT
 ·have e:i=xs.length:=by omega
  subst e;exact .inl ⟨⟨xs,q,rfl⟩,hd σ H p⟩
theorem Yco {K:Κ} {ta:TA} {a:Addr} {xs:List V} (Pv:Nat->St->Hp->Prop) (ha:∀ R:List V->Hp->Prop,R [.ref a] H->ta σ H R) (h0:Pv 0 σ H) (hl:∀ i σ H,i<=xs.length->Pv i σ H->aq K H a xs)
  (hs:∀ i x σ H T,xs[i]?=some x->Pv i σ H->H T=none->g (.ref T) σ (upd H T (.tup [.int (i:Int),x])) fun σ2 H2=>tb { D with nx:=Pv (i+1),ct:=Pv (i+1),bk:=D.nx } σ2 H2) (hd:∀ σ H,Pv xs.length σ H->D.nx σ H):XS (Hx K ta) g tb D σ H:=by
 refine ha _ ⟨a,xs,rfl,hl 0 σ H (az _) h0,?_⟩;exact Yen Pv h0 hl (fun i x σ H T hx p hT=>hs i x σ H T hx p hT) hd
end
section
variable {X:Cx} {tg:Expr}
def sV (lo c:Int) (n:Nat):It:=⟨fun i _=>i<n,fun i H v H'=>v = .int (lo+i*c)/\H'=H,fun i _=>n<=i⟩
theorem Yf8 {P:Ο} {w:ε} {K:Κ} (it:Addr) (lo c:Int) (n:Nat):Turn P w K tg (sV lo c n) [it] it (fun i h=>gu h it (lo+i*c) ((n:Int) - i) c) where
 mem:=by simp
 obj:=fun i h st b hb=>by
  have e:b=it:=by simpa using hb
  subst e;exact ⟨_,st,fun v z=>by
   have z':js _=Data.cell v:=z
   cases z'⟩
 keep:=fun i h h' st k=>k it (by simp) _ st
 item:=by
  intro X hP hw hK hc i pins s σ H E I hf st hg;subst hP hw hK;obtain ⟨f0,f1,f2,f3,f4,f5⟩:=hf it (by simp);have W:=Walks.range (prog:=X.prog) (w:=X.w) (I.ok.hd hc) it lo c n;refine W.item i s _ _ hg st fun v h' tk hv st' kk=>?_
  obtain ⟨t,rfl⟩:=hv;have I1:Inv X pins σ H { s with heap:=h',toks:=tk }:=I.turned (fun b o hb e=>kk b o (by simpa using hb) e) f0 f1 f3 f4 f5;exact ⟨_,rfl,VQ (s:={ s with heap:=h',toks:=tk }) (n:="range_iterator") st' rfl rfl (by decide) ⟨.int (lo+i*c),H,I1,⟨t,rfl⟩,⟨rfl,rfl⟩,st',fun b hb=>(hf b hb).1⟩⟩
 done:=by
  intro X hP hw hK hc i pins s σ H E I hf st hg;subst hP hw hK;obtain ⟨f0,f1,f2,f3,f4,f5⟩:=hf it (by simp);exact wpAny_pyNext_range_end (I.ok.hd hc) st (by have:n<=i:=hg;omega) fun h' eb=>⟨rfl,I.turned (t':=s.toks) (fun b o hb e=>eb b o hb e) f0 f1 f3 f4 f5⟩
 self:=fun _ _ _ _ _ st h=>wpAny_pyIter_rangeiter st h
theorem VY {a b c:Int} (hc:0<c):ψ a b c=if a<b then (b - a - 1) / c+1 else 0:=by
 unfold ψ;rw [if_pos hc]
theorem Yeo {a b c:Int} (ha : -(2^60)<=a) (ha':a<2^60) (hb : -(2^60)<=b) (hb':b<2^60) (hc:0<c) (hc':c<2^60):fg a b c=true:=by
 have e:=VY (a:=a) (b:=b) hc;have h2:a<b->(b - a - 1) / c<=b - a - 1:=fun h=>Int.ediv_le_self _ (by omega)
 have h3:a<b->0<=(b - a - 1) / c:=fun h=>Int.ediv_nonneg (by omega) (by omega)
 unfold fg;rw [e];simp only [Builtin.Range.rangeFitsLong,dm,Bool.or_eq_true,decide_eq_true_eq,beq_iff_eq,show c>0 from hc,if_true];by_cases h:a<b
 ·have h2:=h2 h
  have h3:=h3 h;simp only [h,if_true];omega
 ·simp only [h,if_false]
  omega
theorem Ei {pins:List (Addr×Obj)} {σ:St} {H:Hp} {s:Δ} {R:It->Hp->Prop} {E:Α->Δ->Prop} {lo hi c:Int} {t u v:Tok} {tk:Nat} (I:Inv X pins σ H s) (h1 : -(2^60)<=lo) (h2:lo<2^60) (h3 : -(2^60)<=hi) (h4:hi<2^60) (h5:0<c) (h6:c<2^60)
  (q:R (sV lo c (ψ lo hi c).toNat) H):Ξ (γ X.prog X.w) X.A (pyIter (.ref s.heap.objs.size)) (PIE X pins σ tg R) E { s with heap:=s.heap.push { cls := .type "range",data := .fields #[.int lo t,.int hi u,.int c v] },toks:=tk }:=by
 refine wpAny_pyIter_range (IsRange.new ..) (Yeo h1 h2 h3 h4 h5 h6) ?_;have I1:Inv X pins σ H { s with heap:=s.heap.push { cls := .type "range",data := .fields #[.int lo t,.int hi u,.int c v] },toks:=tk }:=I.kept fun b o e=>Η _ e
 refine ⟨(s.heap.push { cls := .type "range",data := .fields #[.int lo t,.int hi u,.int c v] }).objs.size,[(s.heap.push { cls := .type "range",data := .fields #[.int lo t,.int hi u,.int c v] }).objs.size],_,_,H,rfl,
  I1.kept (t':=tk) fun b o e=>Η _ e,Yf8 _ lo c (ψ lo hi c).toNat,?_,fun b hb=>?_,q⟩
 ·have e1:lo+((0:Nat):Int)*c=lo:=by simp
  have e0:0<=ψ lo hi c:=by
   rw [VY h5]
   split
   ·have:=Int.ediv_nonneg (a:=hi - lo - 1) (b:=c) (by omega) (by omega)
    omega
   ·omega
  have e2:(((ψ lo hi c).toNat:Nat):Int) - ((0:Nat):Int)=ψ lo hi c:=by omega
  show gu _ _ (lo+((0:Nat):Int)*c) ((((ψ lo hi c).toNat:Nat):Int) - ((0:Nat):Int)) c
  rw [e1,e2];exact Ω _ rfl
 ·have e:b=(s.heap.push { cls := .type "range",data := .fields #[.int lo t,.int hi u,.int c v] }).objs.size:=by simpa using hb
  subst e;exact I1.dO (Μ _) (I1.hok.fresh (Μ _))
def wX (ta:TA):TI:=fun σ H R=>ta σ H fun vs H1=>∃ i j c:Int,vs=[.int i,.int j,.int c]/\(-(2^60)<=i/\i<2^60 /\ -(2^60)<=j/\j<2^60/\0<c/\c<2^29)/\R (sV i c (ψ i j c).toNat) H1
theorem Qu {a b c:Expr} {ta:TA} {p pos:Pos} (hg:Gl X "range") (hm:X.mg "range"=none) (ha:PA X [a,b,c] ta) (hs:Φ [a,b,c] X.env=[(false,eval a X.env),(false,eval b X.env),(false,eval c X.env)]) (hs2:Φ [b,c] X.env=[(false,eval b X.env),(false,eval c X.env)]) :
  PI X tg (.Call (.Name "range" p) [a,b,c] [] pos) (wX ta):=by
 intro pins s σ H R I h;refine Call_ (XT I hg hm boot_range (be (aG (ha pos pins s σ H _ I h) fun us s1 hz=>?_) (by rw [hs,hs2]) (by rw [hs2];rfl)));obtain ⟨vs,H1,I1,r1,i,j,k,e,⟨q1,q2,q3,q4,q5,q6⟩,q⟩:=hz;subst e
 cases r1 with
 | cons r rr =>
  cases rr with
  | cons r' rr =>
   cases rr with
   | cons r'' rr =>
    cases rr
    obtain ⟨t,rfl⟩:=r;obtain ⟨t',rfl⟩:=r';obtain ⟨t'',rfl⟩:=r'';exact call_range_3 (by omega) (Ei I1 q1 q2 q3 q4 q5 (by omega) q) (.inl (PyProof.noPylong_small (by omega)))
end
theorem Yf9 {g:TG} {tb:TS} {D:Ends} {σ:St} {H:Hp} {ta:TA} {n c:Nat} (hc:0<c) (hc':c<2^29) (Pv:Nat->St->Hp->Prop) (ha:∀ R:List V->Hp->Prop,R [.int 0,.int n,.int c] H->ta σ H R) (hn:n<2^60) (h0:Pv 0 σ H)
  (hs:∀ i σ H,i*c<n->Pv i σ H->g (.int ((i*c:Nat):Int)) σ H fun σ2 H2=>tb { D with nx:=Pv (i+1),ct:=Pv (i+1),bk:=D.nx } σ2 H2) (hd:∀ i σ H,n<=i*c->Pv i σ H->D.nx σ H):XS (wX ta) g tb D σ H:=by
 refine ha _ ⟨0,n,c,rfl,⟨by decide,by decide,by omega,by omega,by omega,by omega⟩,?_⟩;obtain ⟨m,em,hm1,hm2⟩:∃ m:Nat,ψ 0 n c=m/\(∀ i,i<m->i*c<n)/\n<=m*c:=by
  rw [VY (by omega)];by_cases h:(0:Int)<n
  ·refine ⟨(n - 1) / c+1,?_,fun i hi=>?_,?_⟩
   ·rw [if_pos h]
    have:(n:Int) - 0 - 1=((n - 1:Nat):Int):=by omega
    rw [this];rfl
   ·have h1:i*c<=(n - 1) / c*c:=Nat.mul_le_mul_right c (by omega)
    have h2:=Nat.div_mul_le_self (n - 1) c;omega
   ·have h1:=Nat.div_add_mod (n - 1) c
    have h2:=jv (n - 1) hc;rw [Nat.add_mul,Nat.mul_comm];omega
  ·exact ⟨0,by rw [if_neg h];rfl,fun i hi=>absurd hi (by omega),by omega⟩
 rw [em,d6];refine ⟨fun i r σ H=>r=m - i/\i<=m/\Pv i σ H,⟨m,by simp,az _,h0⟩,?_⟩;rintro i r σ H ⟨rfl,hi,p⟩;by_cases hlt:i<m
 ·refine .inr ⟨hlt,Pv (i+1),fun σ' H' p'=>⟨m - (i+1),by omega,rfl,hlt,p'⟩,fun x H' y=>?_⟩
  obtain ⟨e1,e2⟩:=y;subst e1 e2;have z:=hs i σ _ (hm1 i hlt) p;rw [ja,<- im];exact z
 ·have e:i=m:=by omega
  subst e;exact .inl ⟨Μ _,hd i σ H hm2 p⟩
def Nm (a:Addr) (cls:Α) (dc:Option Addr):HO := .ext fun h=>∃ o vs,h.get? a=some o/\o.cls=cls/\o.data = .fields vs/\o.dict=dc
def Ends.gone (D:Ends) (j:Nat):Ends:={ nx:=fun σ H=>D.nx (σ.set j none) H,rt:=D.rt,bk:=fun σ H=>D.bk (σ.set j none) H,ct:=fun σ H=>D.ct (σ.set j none) H }
def Hy (K:Κ) (cv:Α) (sp:Sp) (t:TA) (i j:Nat) (ts:TS):TS:=fun D σ H=>t σ H fun vs H1=>sp (vs++[]) H1 (fun v H2=>D.nx (σ.set i (some v)) H2) (fun cls dc H2=>W.exmOne K cls cv=some true/\∀ a,H2 a=none->ts (D.gone j) (σ.set j (some (.ref a))) (upd H2 a (Nm a cls dc)))
section
variable {X:Cx}
theorem YgP {g:Gx} {x:Str} {C:Addr} {pos:Pos} (h:g.mg x=some (.ref C)) (hX:X.gx=g:=by rfl) (hg:Gl X x:=by rfl) (hd:(x==("__debug__":Str))=false:=by decide):PE X (.Name x pos) (tC (.ref C)):=by
 subst hX;exact Fi hg h rfl hd
end
theorem WR {K:Κ} {C:Addr} {f:Str} (h:eC K (.ref C) f=some none):Yt K C f:=h
theorem Xh (es:List Expr) (x:Nat) (p:Pos) (es':List Expr) (env:Env):Φ (.Tuple es x p::es') env=(false,eval (.Tuple es x p) env)::Φ es' env:=rfl
theorem Yeq (es:List Expr) (p:Pos) (es':List Expr) (env:Env):Φ (.List es p::es') env=(false,eval (.List es p) env)::Φ es' env:=rfl
section
variable {src:List (Option Nat)} {te:TE} {σ:St} {Q:VK}
variable {X:Cx} {H:Hp}
def wY (a b:TI):TI:=fun σ H R=>a σ H R\/b σ H R
theorem Ej {tg:Expr} {l:Expr} {a b:TI} (ha:PI X tg l a) (hb:PI X tg l b):PI X tg l (wY a b):=by
 intro pins s σ H R I h;rcases h with h | h
 ·exact ha pins s σ H R I h
 ·exact hb pins s σ H R I h
end
end L2
namespace L2
open PySem
section
variable {src:List (Option Nat)} {te:TE} {σ:St} {H:Hp} {Q:VK}
theorem Yga {J:It} {P:Hp->Prop} {xs:List V} (hJ:XC J P xs) {H1:Hp} {D:Addr} (Rl:Nat->V->Hp->Prop) (st:∀ i y H H',Rl i y H->Ye H H'->Rl i y H') (su:∀ i y H zs zs',Rl i y H->H D=some (.lst zs)->Rl i y (upd H D (.lst zs')))
  (hP:∀ H',Ye H1 H'->P H') (hD:H1 D=none) (hlen:xs.length<=100000)
  (step:∀ (i:Nat) x H' zs,xs[i]?=some x->Ye H1 H'->H' D=some (.lst zs)->∀ R:VK,(∀ y aF,Ye H' aF->Rl i y aF->R y aF)->te (some x::YF src σ) H' R)
  (fin:∀ (ys:List V) H',Ye H1 H'->H' D=some (.lst ys)->ys.length=xs.length->(∀ (j:Nat) y,ys[j]?=some y->Rl j y H')->Q (.ref D) H'):LC (none::src) J (YE 0) XI te σ H1 Q D:=by
 have h6:100000<sizeLine:=by decide
 refine VU hJ (fun i zs σ' H'=>zs.length=i/\(∃ o,σ'=o::YF src σ)/\Ye H1 H'/\H' D=some (.lst zs)/\∀ (j:Nat) y,zs[j]?=some y->Rl j y H')
  ⟨rfl,⟨none,rfl⟩,.aj hD _,Yb,fun j y h=>by simp at h⟩ (fun i zs σ' H' ⟨_,_,p1,p2,_⟩=>⟨hP _ p1,p2⟩) (XN 0) ?_ ?_
 ·rintro i zs σ' H' x hx ⟨hi',⟨o,rfl⟩,sm,hd,hts⟩
  have hi:=(Ι.mp hx).1
  show te (some x::YF src σ) H' _
  refine step i x H' zs hx sm hd _ fun y aF s2 hy=>⟨s2 _ _ hd,by omega,by simp [hi'],⟨_,rfl⟩,.aP hD (sm.trans s2) _,Yb,fun j z hj=>su _ _ _ _ _ ?_ (s2 _ _ hd)⟩
  rcases Nat.lt_trichotomy j zs.length with h1 | h1 | h1
  ·rw [ag h1] at hj
   exact st _ _ _ _ (hts j z hj) s2
  ·have hb:y=z:=by subst h1;simpa using hj
   subst hb;rw [h1,hi'];exact hy
  ·rw [List.getElem?_eq_none (by rw [Ζ,δ];omega)] at hj;cases hj
 ·rintro zs σ' H' ⟨hn,_,sm,hd,hts⟩
  exact fin zs H' sm hd hn hts
theorem Yer {K:Κ} {tl:TE} {xs:List V} {b:Addr} (Rl:Addr->Nat->V->Hp->Prop) (st:∀ D i y H H',Rl D i y H->Ye H H'->Rl D i y H') (su:∀ D i y H zs zs',Rl D i y H->H D=some (.lst zs)->Rl D i y (upd H D (.lst zs')))
  (ha:∀ R:V->Hp->Prop,R (.ref b) H->tl σ H R) (hS:ao K H b xs) (hlen:xs.length<=100000)
  (step:∀ D (i:Nat) x H' zs,xs[i]?=some x->Ye H H'->H' D=some (.lst zs)->∀ R:VK,(∀ y aF,Ye H' aF->Rl D i y aF->R y aF)->te (some x::YF src σ) H' R)
  (fin:∀ D (ys:List V) H',H D=none->Ye H H'->H' D=some (.lst ys)->ys.length=xs.length->(∀ (j:Nat) y,ys[j]?=some y->Rl D j y H')->Q (.ref D) H'):dj (none::src) (XM K tl) (YE 0) XI te σ H Q :=
 ha _ ⟨b,rfl,⟨xs,hS⟩,fun D hD=>Yga (XD.imp fun H' (e:Ye H H')=>e.seq hS) (Rl D) (st D) (su D) (fun _ e=>e) hD hlen (fun i x H' zs hx sm hd R r=>step D i x H' zs hx sm hd R r) fun ys H' sm=>fin D ys H' hD sm⟩
end
mutual
inductive VL (H:Hp):V->Β->List Addr->Prop
 | int (i:Int):VL H (.int i) (.int i) []
 | str (x:Str) (h:fE x=true):VL H (.str x) (.str x) []
 | lst {a:Addr} {vs:List V} {ds:List Β} {L:List Addr}:H a=some (.lst vs)->vs.length<=10000->oR H vs ds L->VL H (.ref a) (.list ds) (a::L)
 | tup {a:Addr} {vs:List V} {ds:List Β} {L:List Addr}:H a=some (.tup vs)->vs.length<=10000->oR H vs ds L->VL H (.ref a) (.tuple ds) L
inductive oR (H:Hp):List V->List Β->List Addr->Prop
 | nil:oR H [] [] []
 | cons {v:V} {d:Β} {L:List Addr} {vs:List V} {ds:List Β} {L':List Addr}:VL H v d L->oR H vs ds L'->oR H (v::vs) (d::ds) (L++L')
end
def jG (H H':Hp):Prop:=∀ a vs,H a=some (.tup vs)->H' a=some (.tup vs)
theorem Ye.tps {H H':Hp} (s:Ye H H'):jG H H':=fun a vs h=>s a _ h
theorem jG.iy {H:Hp} {p:Addr} {xs ys:List V} (h:H p=some (.lst xs)):jG H (upd H p (.lst ys)):=fun a vs ha=>by
 rw [Yg (YI ha h (by intro z;cases z))];exact ha
theorem Yes {K:Κ} {tl:TE} {g:TG} {tb:TS} {D:Ends} {σ:St} {H:Hp} {a:Addr} {xs:List V} (Pv:Nat->St->Hp->Prop) (ha:∀ R:V->Hp->Prop,R (.ref a) H->tl σ H R) (h0:Pv 0 σ H) (hl:∀ i σ H,i<=xs.length->Pv i σ H->aq K H a xs)
  (hs:∀ i x σ H,xs[i]?=some x->Pv i σ H->g x σ H fun σ2 H2=>tb { D with nx:=Pv (i+1),ct:=Pv (i+1),bk:=D.nx } σ2 H2) (hd:∀ σ H,Pv xs.length σ H->D.nx σ H):XS (rO K tl) g tb D σ H:=by
 refine ha _ ⟨a,rfl,⟨xs,hl 0 σ H (az _) h0⟩,?_⟩;exact Fy Pv h0 hl hs hd
theorem Yet {a b:TI} {g:TG} {tb:TS} {D:Ends} {σ:St} {H:Hp} (h:XS a g tb D σ H):XS (wY a b) g tb D σ H:=.inl h
theorem Yeu {a b:TI} {g:TG} {tb:TS} {D:Ends} {σ:St} {H:Hp} (h:XS b g tb D σ H):XS (wY a b) g tb D σ H:=.inr h
section
variable {src:List (Option Nat)} {te:TE} {σ:St} {H:Hp} {Q:VK}
theorem Yev {lo c:Int} {n:Nat} {P:Hp->Prop}:XC (sV lo c n) P ((ai n).map fun (i:Nat)=>V.int (lo+i*c)):=fun H hq i=>by
 refine ⟨fun x hx=>?_,fun hi=>by show n<=i;simpa using hi⟩;have hi:i<n:=by
  have:=(Ι.mp hx).1;simpa using this
 refine ⟨hi,fun y H' ⟨e1,e2⟩=>⟨e2,?_⟩⟩;rw [Ν,ce hi] at hx
 rw [e1];exact Λ hx
def U8 (n c m:Nat):Prop:=(∀ i,i<m->i*c<n)/\n<=m*c
theorem U8.uniq {n c m m':Nat} (h:U8 n c m) (h':U8 n c m'):m=m':=by
 rcases Nat.lt_trichotomy m m' with c1 | c1 | c1
 ·have:=h'.1 m c1;have:=h.2;omega
 ·exact c1
 ·have:=h.1 m' c1;have:=h'.2;omega
theorem Yew {n c:Nat} (hc:0<c):∃ m:Nat,ψ 0 n c=m/\U8 n c m:=by
 rw [VY (by omega)];by_cases h:(0:Int)<n
 ·refine ⟨(n - 1) / c+1,?_,fun i hi=>?_,?_⟩
  ·rw [if_pos h]
   have:(n:Int) - 0 - 1=((n - 1:Nat):Int):=by omega
   rw [this];rfl
  ·have h1:i*c<=(n - 1) / c*c:=Nat.mul_le_mul_right c (by omega)
   have h2:=Nat.div_mul_le_self (n - 1) c;omega
  ·have h1:=Nat.div_add_mod (n - 1) c
   have h2:=jv (n - 1) hc;rw [Nat.add_mul,Nat.mul_comm];omega
 ·exact ⟨0,by rw [if_neg h];rfl,fun i hi=>absurd hi (by omega),by omega⟩
end
end L2
namespace L2
open PySem
section
variable {src:List (Option Nat)} {te:TE} {σ:St} {H:Hp} {Q:VK}
theorem Wy {ta:TA} {n:Nat} (I:Addr->Nat->List V->Hp->Prop) (ha:∀ R:List V->Hp->Prop,R [.int n] H->ta σ H R) (hlen:n<=100000)
  (i0:∀ D,H D=none->I D 0 [] (upd H D (.lst []))) (dl:∀ D i zs H',I D i zs H'->zs.length=i/\H' D=some (.lst zs))
  (step:∀ D (i:Nat) zs H',H D=none->i<n->I D i zs H'->∀ R:VK,(∀ y aF,aF D=some (.lst zs)->I D (i+1) (zs++[y]) (upd aF D (.lst (zs++[y])))->R y aF)->te (some (.int i)::YF src σ) H' R)
  (fin:∀ D zs H',H D=none->I D n zs H'->Q (.ref D) H'):dj (none::src) (QS ta) (YE 0) XI te σ H Q:=by
 refine ha _ ⟨n,rfl,by omega,by omega,fun D hD=>?_⟩;have h6:100000<sizeLine:=by decide
 refine VU (V9 (lo:=0) (n:=n) (P:=fun _=>True)) (fun i zs σ' H'=>(∃ o,σ'=o::YF src σ)/\i<=n/\I D i zs H') ⟨⟨none,rfl⟩,az _,i0 D hD⟩ (fun i zs σ' H' q=>⟨trivial,(dl _ _ _ _ q.2.2).2⟩) (XN 0) ?_ ?_
 ·rintro i zs σ' H' x hx ⟨⟨o,rfl⟩,_,hI⟩
  have hi:i<n:=by have:=(Ι.mp hx).1;simpa using this
  rw [Ν,ce hi] at hx
  have e:V.int (0+(i:Int))=x:=Λ hx;rw [ja] at e
  subst e;have hl:=(dl _ _ _ _ hI).1
  show te (some (.int i)::YF src σ) H' _
  exact step D i zs H' hD hi hI _ fun y aF hd hI'=>⟨hd,by omega,⟨_,rfl⟩,hi,hI'⟩
 ·rintro zs σ' H' ⟨_,_,hI⟩
  exact fin D zs H' hD (by simpa using hI)
end
end L2
namespace L2
open PySem PySem.Spec PyProof.Rows
theorem YgQ {P:Ο} {w:ε} {X:Cx}:Wa (jF P w) X (fun _ _ _=>False):=by
 intro pins σ H s e s' I h;obtain ⟨_,_,_,_,_,_,_,_,_,_,z⟩:=h;exact z.elim
def tNo:TE:=fun _ _ _=>False
theorem Yex {X:Cx} {e:Expr}:PE X e tNo:=fun _ _ _ _ _ _ h=>h.elim
theorem Yey {X:Cx} {f:Α} {r1 r2:List V->Hp->VK->Prop} (h1:Xv X f r1) (h2:Xv X f r2):Xv X f (fun xs H Q=>r1 xs H Q\/r2 xs H Q):=fun pins s σ H xs us Q I v h =>
 h.elim (h1 pins s σ H xs us Q I v) (h2 pins s σ H xs us Q I v)
def Ygb (l:List Str) (v:Str):List Str:=if l.any (·==v) then l else l++[v]
def met (val:Nat->Str) (i:Nat):List Str:=((ai i).map val).foldl Ygb []
def sg (x:Str) (i:Nat):Str:=⟨#[x.cps.getD i 0]⟩
def Mu (a:Addr) (n:Nat):HO := .ext fun h=>∃ (o:Obj) (es:Array (Int×Α)) (ep:Nat) (t:SetTable),h.get? a=some o/\o.ExactSet/\o.data = .set es ep t/\t.fits es.size=true/\es.size=n/\n<scanBound
def Np:TT:=fun _ _ _=>False
theorem Yez {X:Cx} {e:Expr}:PT X e Np:=fun _ _ _ _ _ _ h=>h.elim
theorem Qv {xs:List V} {its:List Α} (r:Yw xs its):∀ idx:List Nat,∃ ys,Yw ys (idx.filterMap (its.toArray[·]?))/\(∀ v∈ys,v∈xs)/\ys.length<=idx.length
 | []=>⟨[],.nil,(fun v h=>absurd h (by simp)),Μ _⟩
 | i::idx=>by
  obtain ⟨ys,h1,h2,h3⟩:=Qv r idx
  cases hx:xs[i]? with
  | none =>
   have hn:=r.none_of hx;refine ⟨ys,?_,h2,by rw [am];omega⟩;rw [ci,show its.toArray[i]?=none by simpa using hn];exact h1
  | some x =>
   obtain ⟨u,hu,ru⟩:=r.get hx;refine ⟨x::ys,?_,?_,by rw [am,am];omega⟩
   ·rw [ci,show its.toArray[i]?=some u by simpa using hu]
    exact .cons ru h1
   ·intro v hv
    rcases Υ.mp hv with rfl | hv
    ·exact Τ hx
    ·exact h2 v hv
section
variable {X:Cx} {e lo st:Expr} {te tl ts:TE} {pos p2:Pos}
def U9 (K:Κ) (te tl ts:TE):TE:=fun σ H Q=>te σ H fun x H1=>tl σ H1 fun y H2=>ts σ H2 fun z H3 =>
 ∃ (a:Addr) (xs:List V) (k n:Int),x = .ref a/\y = .int k/\z = .int n/\0<=k/\0<n/\ao K H3 a xs/\∀ p ys,H3 p=none->(∀ v∈ys,v∈xs)->ys.length<=xs.length->Q (.ref p) (upd H3 p (.lst ys))
theorem Ydu (he:PE X e te) (hl:PE X lo tl) (hs:PE X st ts):PE X (.Subscript e (.Slice (some lo) none (some st) p2) pos) (U9 X.K te tl ts):=by
 intro pins s σ H Q I h;refine i5 (aG (he pins s σ H _ I h) fun v s1 ⟨x,H1,I1,r1,q1⟩=>?_);refine wpAny_Slice ?_;rw [iF];refine aG (hl pins s1 σ H1 _ I1 q1) fun ul s2 ⟨y,H2,I2,r2,q2⟩=>?_
 rw [iL];refine Ψ ?_;rw [iF];refine aG (hs pins s2 σ H2 _ I2 q2) fun u s3 ⟨z,H3,I3,r3,q3⟩=>?_
 obtain ⟨a,xs,k,n,rfl,rfl,rfl,hk,hn,hx,q⟩:=q3;obtain ⟨t1,rfl⟩:=r2;obtain ⟨t2,rfl⟩:=r3
 cases r1
 have I4:Inv X pins σ H3 { s3 with heap:=s3.heap.push { cls := .type "slice",data := .fields #[.int k t1,.none,.int n t2] } }:=I3.kept (t':=s3.toks) fun b ob q=>Η _ q
 obtain ⟨its,r,ht,hz⟩:=I4.list hx;have hlen:=r.length;obtain ⟨ys,v1,v2,v3⟩:=Qv r (i3 (bS (some k) none (some n) its.toArray.size).1 (bS (some k) none (some n) its.toArray.size).2.1 (bS (some k) none (some n) its.toArray.size).2.2);have hb:bS (some k) none (some n) its.toArray.size=(max 0 (min k its.length),(its.length:Int),n):=by
  simp only [bS,Option.getD_some,ν];rw [if_neg (show ¬ k<0 by omega),if_pos (show n>0 by omega),if_pos (show n>0 by omega)]
 have hle:ys.length<=its.length:=by
  refine ah v3 ?_;rw [hb];exact sliceRange_length_le _ _ _ _ (fun _=>⟨by dsimp only;omega,by dsimp only;omega⟩) (fun z=>absurd (show n>0 by omega) z)
 have hg:=wpAny_getItem_list_slice (prog:=X.prog) (w:=X.w) (A:=X.A) (E:=X.xe) (Q:=EP X pins σ Q) ht.isList (Heap.IsSliceOf.new ..) (.int k t1) .none (.int n t2) (by intro z;have:=Λ z;omega) (by
  refine ⟨.ref _,_,I4.laid (t':=_) (o := .lst ys) (fun b ob q=>Η _ q) (Μ _) ?_,rfl,q _ _ (I4.hok.fresh (Μ _)) v2 (by omega)⟩;exact ⟨by omega,_,0,v1,Ω _ rfl⟩) (by rw [ν]<;>omega)
 exact tail_any (ops:=[.ref a,.ref s3.heap.objs.size]) ht.isList.typeIs slot_list_getitem.lookup hg (by with_unfolding_all rfl)
end
structure tu (K:Κ) (B:Addr) (m:Str) (f:Addr):Prop where
 ga:W.specialIn K (.ref B) "__getattribute__"=some (some (.builtin "type.__getattribute__"))
 rd:W.readsIn K B (.type "type")=true
 at_:W.findCls K (.ref B) (.type "type") m=some (.val (.ref f))
 kp:ef K (.ref f)=true
def Gx.Cf (g:Gx) (k:Nat) (x m:Str) (ps:List Str) (sp:Sp):Prop:=∃ B f fd,aY g.P g.w g.K g.mg g.base bV k f fd ps sp/\Xq g.K fd ps []/\tu g.K B m f/\g.mg x=some (.ref B)
def Gx.jH (g:Gx) (x m qual:Str) (st:Stmt) (ps:List Str):Prop:=∃ B f fd,dU g.K m qual st f fd/\Xq g.K fd ps []/\tu g.K B m f/\g.mg x=some (.ref B)
theorem Gx.Cf.mono {g:Gx} {j k:Nat} {x m:Str} {ps:List Str} {sp:Sp} (F:g.Cf j x m ps sp) (h:j<=k):g.Cf k x m ps sp:=by
 obtain ⟨B,f,fd,F,r⟩:=F;exact ⟨B,f,fd,F.mono h,r⟩
section
variable {g:Gx} {X:Cx} {k j:Nat} {x m:Str} {ps:List Str} {sp:Sp} {e:Expr} {es:List Expr} {t:TA} {p pos apos:Pos}
theorem Ek {pl:Sem Bool} (F:g.Cf j x m ps sp) (hr:aM k X.A) (ha:PA X (e::es) t) (hj:j<=k) (hX:X.gx=g) (hg:Gl X x) (hdb:(x==("__debug__":Str))=false)
  (hst:Φ (e::es) X.env=(false,eval e X.env)::Φ es X.env) (hpl:(bv pos (Φ es X.env)).any (·.1)=false)
  (ht:eval (.Call (.Attribute (.Name x p) m apos) (e::es) [] pos) X.env=(do
   let ov <- eval (.Name x p) X.env
   standAt apos.atName
   let (f,first) <- holding [ov] (getMethod ov m pl)
   callWith pos f first (bv pos (Φ (e::es) X.env)) (ir pos (e9 [] X.env)))):PE X (.Call (.Attribute (.Name x p) m apos) (e::es) [] pos) (Vl sp [] E0 t):=by
 subst hX;obtain ⟨B,f,fd,F,b,c,hm⟩:=F;intro pins s σ H Q I h;refine PySem.W.methodCall_KW (pl:=pl) (aG (YgP (g:=X.gx) (pos:=p) hm rfl hg hdb pins s σ H (fun v H1=>v = .ref B/\H1=H) I ⟨rfl,rfl⟩) fun u s1 ⟨v,H1,I1,rv,e1,e2⟩=>?_) ht;subst e1 e2;obtain rfl:u=ac B:=rv;refine PySem.W.method_cls I1.bJ c.ga (PySem.W.cls_value I1.bJ c.rd c.at_ rfl ?_);have I2:=I1.tok (s1.toks+1);refine eB (h₀:=X.base) I.ok.mod.iD c.kp (aG (ha pos pins _ σ H1 _ I2 h) fun us s2 ⟨vs,H2,I3,r,q2⟩=>⟨I3.bJ,?_⟩) hst hpl;exact VA (bB:=[]) (ds:=[]) F (hr.mono hj) b .nil VT I3 r q2
end
def HB:R2:=fun y x H Q=>∃ a o,x = .ref a/\Vm H a y o/\Q (.bl (!o.isSome)) H
def wZ:R2:=fun y x H Q=>∃ a o,x = .ref a/\Vm H a y o/\Q (.bl o.isSome) H
section
variable {K:Κ} {h:Heap} {mg:Str->Option Α} {P:Ο} {w:ε} {base:Heap} {f B:Addr} {x qual m:Str} {st:Stmt} {ps N:List Str} {oc kV dc pm cd ct:Α} {od an:Option Addr} {sl:Array (Option Α)} {g:Gx} {k:Nat} {sp:Sp}
theorem Gx.jH.cf (R:g.jH x m qual st ps) (S:ak N ps (Yi st)) (len:∀ vs H Q E,sp vs H Q E->vs.length=ps.length) (b:Uh g k N qual st sp):g.Cf (k+1) x m ps sp:=by
 obtain ⟨B,f,fd,F,bd,c,hm⟩:=R;exact ⟨B,f,fd,F.ok S len fun cdv A outer s H vs Q E hr h=>b f cdv A outer s H vs Q E hr h,bd,c,hm⟩
theorem Ygc (X:K.In h) (G:h.Ns ba mg) (ps:List Str) (aB:i8 K ba x=some (some (.ref B))) (ga:PySem.W.specialIn K (.ref B) "__getattribute__"=some (some (.builtin "type.__getattribute__")))
  (rd:PySem.W.readsIn K B (.type "type")=true) (a:PySem.W.findCls K (.ref B) (.type "type") m=some (.val (.ref f)))
  (l:K.lookup f=some ⟨oc,od,.func (c5 m qual (Y4 st) (YS st) (Yi st) .none kV dc pm an cd ct),sl⟩) (c:gf K cd qual=true) (k:ef K (.ref f)=true)
  (b:∀ (kV doc pm:Α) (an:Option Addr) (cdv ct:Α) (us:List Α),us.length=ps.length->fo (c5 m qual (Y4 st) (YS st) (Yi st) .none kV doc pm an cdv ct) ⟨us,[]⟩=pure (ps.zip us)) :
  ∀ P w base,(Gx.mk P w K mg base).jH x m qual st ps:=fun P w base =>
 have F:=Vd (st:=st) l c k
 ⟨B,f,_,F,F.binds b,⟨ga,rd,a,k⟩,iO X G aB⟩
end
end L2
namespace L2
def Qa (a b:TE):TE:=fun σ H Q=>a σ H Q\/b σ H Q
theorem Ydv {X:Cx} {e:PySem.Expr} {a b:TE} (ha:PE X e a) (hb:PE X e b):PE X e (Qa a b):=fun pins s σ H Q I h=>h.elim (fun z=>ha pins s σ H Q I z) (fun z=>hb pins s σ H Q I z)
end L2
namespace L2
open PySem PySem.Spec PyProof.Rows
section
variable {g:TG} {tb:TS} {D:Ends} {σ:St} {H:Hp}
theorem Vn {K:Κ} {ta:TA} {a:Addr} {xs:List V} (Pv:Nat->St->Hp->Prop) (ha:∀ R:List V->Hp->Prop,R [.ref a] H->ta σ H R) (h0:Pv 0 σ H) (hl:∀ i σ H,i<=xs.length->Pv i σ H->ao K H a xs)
  (hs:∀ i x σ H T,xs[i]?=some x->Pv i σ H->H T=none->g (.ref T) σ (upd H T (.tup [.int (i:Int),x])) fun σ2 H2=>tb { D with nx:=Pv (i+1),ct:=Pv (i+1),bk:=D.nx } σ2 H2) (hd:∀ σ H,Pv xs.length σ H->D.nx σ H):XS (Hj K ta) g tb D σ H:=by
 refine ha _ ⟨a,xs,rfl,hl 0 σ H (az _) h0,?_⟩;refine ⟨fun i m σ H=>m=xs.length - i/\i<=xs.length/\Pv i σ H,⟨xs.length,by simp,az _,h0⟩,?_⟩;rintro i m σ H ⟨rfl,hi,p⟩;have q:=hl i σ H hi p;by_cases hlt:i<xs.length
 ·have hx:xs[i]?=some xs[i]:=Χ hlt
  refine .inr ⟨⟨xs,_,q,hx⟩,Pv (i+1),fun σ' H' p'=>⟨xs.length - (i+1),by omega,rfl,hlt,p'⟩,?_⟩;rintro v H' ⟨T,rfl,hT,heq⟩;have e:=heq xs _ q hx;subst e;exact hs i _ σ H T hx p hT
 ·have e:i=xs.length:=by omega
  subst e;exact .inl ⟨⟨xs,q,Μ _⟩,hd σ H p⟩
end
end L2
namespace L2
open PySem
theorem Qb {X:Cx} {K:Κ} (h:X.K=K:=by rfl):Xv X (.type "tuple") (fun xs H Q=>∃ p ys,xs=[.ref p]/\((ao K H p ys/\∀ l,H l=none->Q (.ref l) (upd H l (.tup ys)))\/aq K H p ys/\Q (.ref p) H)):=by subst h;exact Xn
end L2
namespace L2
open PySem PySem.Spec PyProof.Rows
abbrev bK (f:Addr) (fd:bg):HO := .ext fun h=>h.get? f=some { cls := .type "function",data := .func fd }
abbrev cX (c:Addr) (q:Str):HO := .ext fun h=>h.CodeRec (.ref c) q
abbrev Wz (c:Addr) (v:V):HO := .ext fun h=>∃ u,YA v u/\h.IsCell c (some u)
section
variable {P:Ο} {w:ε} {H H':Hp} {h h':Heap}
theorem xg {f:Addr} {fd:bg} (e:h.get? f=some { cls := .type "function",data := .func fd }):YN P w H h f (bK f fd):=⟨e,⟨_,e⟩,fun _ _ p k=>k _ p⟩
theorem YgR {c:Addr} {q:Str} (e:h.CodeRec (.ref c) q):YN P w H h c (cX c q):=by
 obtain ⟨c',o,vs,t,e1,e2,e3⟩:=id e
 cases e1
 refine ⟨e,⟨_,e2⟩,fun h1 h2 p k=>?_⟩;obtain ⟨c',o,vs,t,e1,e2,e3⟩:=p
 cases e1
 exact ⟨c,o,vs,t,rfl,k _ e2,e3⟩
theorem Uk {c:Addr} {v:V} {u:Α} (r:YA v u) (e:h.IsCell c (some u)):YN P w H h c (Wz c v):=by
 obtain ⟨o,e1,e2⟩:=id e;refine ⟨⟨u,r,e⟩,⟨_,e1⟩,fun h1 h2 p k=>?_⟩;obtain ⟨u,r,o,e1,e2⟩:=p;exact ⟨u,r,o,k _ e1,e2⟩
theorem aX.track {c:Addr} {o:HO} (x:aX P w H h) (hn:H c=none) (new:YN P w (upd H c o) h c o):aX P w (upd H c o) h:=fun b u e=>by
 by_cases hb:b=c
 ·subst hb;rw [Yb] at e;cases e;exact new
 ·rw [Yg hb] at e
  exact (x b u e).stay (fun _ _ _ q=>q) (fun d q=>by rw [Yg (Yj q hn)];exact q) fun d xs q=>by rw [Yg (Yj q hn)];exact q
end
def off (H:Hp) (cs:List Addr):Hp:=fun b=>if b∈cs then none else H b
def on (H' H:Hp) (cs:List Addr):Hp:=fun b=>if b∈cs then H b else H' b
section
variable {H H':Hp} {cs:List Addr} {b:Addr} {o:HO}
theorem Vh (h:b∈cs):off H cs b=none:=if_pos h
theorem YO (h:b∉cs):off H cs b=H b:=if_neg h
theorem VZ (h:b∈cs):on H' H cs b=H b:=if_pos h
theorem Y2 (h:b∉cs):on H' H cs b=H' b:=if_neg h
theorem XE (h:H b=none):off H cs b=none:=by unfold off;split<;>first | rfl | exact h
theorem VG (h:off H cs b=some o):H b=some o/\b∉cs:=by
 by_cases hb:b∈cs
 ·rw [Vh hb] at h;cases h
 ·rw [YO hb] at h;exact ⟨h,hb⟩
end
abbrev Yz:=List (Str×Addr×V)
def Yz.cl (l:Yz):List (Str×Addr):=l.map fun p=>(p.1,p.2.1)
def Yz.as (l:Yz):List Addr:=l.map fun p=>p.2.1
def Yz.vs (l:Yz):List V:=l.map fun p=>p.2.2
def Yz.In (l:Yz) (H:Hp):Prop:=∀ p∈l,H p.2.1=some (Wz p.2.1 p.2.2)
section
variable {l:Yz} {H:Hp}
theorem Xa {c:Addr} (h:c∈l.as):∃ p∈l,p.2.1=c:=by
 obtain ⟨p,hp,e⟩:=aw.mp h;exact ⟨p,hp,e⟩
theorem Wd:∀ {l:Yz} {x:Str} {c:Addr},l.cl.lookup x=some c->∃ p∈l,p.1=x/\p.2.1=c
 | p::l,x,c,h=>by
  rw [Yz.cl,af,θ] at h
  cases hb:x==p.1 with
  | true=>rw [hb] at h;exact ⟨p,.head _,(eq_of_beq hb).symm,Λ h⟩
  | false =>
   rw [hb] at h
   obtain ⟨q,h1,h2⟩:=Wd (l:=l) h;exact ⟨q,.tail _ h1,h2⟩
theorem VH:∀ {l:Yz},(l.map (·.1)).Nodup->∀ p∈l,l.cl.lookup p.1=some p.2.1
 | a::q,nd,p,hp=>by
  rw [af,aS] at nd
  rw [Yz.cl,af,θ];rcases Υ.mp hp with rfl | hp
  ·simp
  ·have:(p.1==a.1)=false:=by
    rw [beq_eq_false_iff_ne];intro z;exact nd.1 (z▸cS hp)
   rw [this];exact VH nd.2 p hp
theorem Qc {b:Addr} {xs:List V} (hl:l.In H) (h:H b=some (.tup xs)):off H l.as b=some (.tup xs):=by
 rw [YO fun hb=>?_]
 ·exact h
 ·obtain ⟨p,hp,rfl⟩:=Xa hb
  rw [hl p hp] at h;cases h
theorem WD {b:Addr} {o:HO} (hl:l.In H) (h:H b=some o) (ho:∀ φ,o ≠ .ext φ):off H l.as b=some o:=by
 rw [YO fun hb=>?_]
 ·exact h
 ·obtain ⟨p,hp,rfl⟩:=Xa hb
  rw [hl p hp] at h
  exact ho _ (Λ h).symm
theorem Ygd {P:Ο} {w:ε} {h:Heap} (hl:l.In H) (x:aX P w H h):aX P w (off H l.as) h:=fun b o e=>by
 obtain ⟨e1,e2⟩:=VG e;refine (x b o e1).stay (fun _ _ _ q=>q) (fun c q=>WD hl q fun φ z=>by cases z) fun c xs q=>Qc hl q
end
def VI (P:Ο) (w:ε) (K:Κ) (mg:Str->Option Α) (base:Heap) (N:List Str) (qual:Str) (scope:cw) (f:Addr) (cd:Α) (cl:List (Str×Addr)) (A:τ) (outer:List Env) (s:Δ) (H:Hp):Cx where
 prog:=P
 w:=w
 K:=K
 mg:=mg
 base:=base
 A:=A.deeper (W.envX qual scope s.heap.objs.size f cd cl)
 N:=N
 s₀:=s
 H₀:=H
 env:=W.envX qual scope s.heap.objs.size f cd cl
 outer:=outer
 stack:=W.envX qual scope s.heap.objs.size f cd cl::outer
 ex:=[]
 calm:=true
 fn:=fun _=>false
 pn:=[]
 xe:=fun _ _=>False
structure bY (N ps:List Str) (l:List Str) (sc:cw):Prop where
 kind:sc.kind = .function
 co:sc.isCoroutine=false
 gen:sc.isGenerator=false
 nd:N.Nodup
 pre:N.take ps.length=ps
 suf:N.drop (N.length - l.length)=l
 len:ps.length+l.length<=N.length
 par:∀ x∈ps,sc.names.lookup x=some .local
 fre:∀ x∈l,sc.names.lookup x=some .free
 gG:∀ y∈sc.names,y.2 ≠ .cell
 all:∀ y∈sc.names,y.2 = .free->y.1∈l
def WK (N:List Str) (vs fv:List V):St:=vs.map some++List.replicate (N.length - vs.length - fv.length) none++fv.map some
section
variable {P:Ο} {w:ε} {K:Κ} {mg:Str->Option Α} {base:Heap} {N ps:List Str} {qual name:Str} {scope:cw} {f c:Addr} {A:τ} {outer:List Env} {s:Δ} {H:Hp} {us:List Α} {vs:List V} {l:Yz} {cd:Α}
theorem Qd:∀ {ps:List Str} {us:List Α} {i:Nat} {x:Str} {u:Α},ps.Nodup->ps[i]?=some x->us[i]?=some u->(ps.zip us).reverse.lookup x=some u:=by
 intro ps us i x u nd h1 h2;have hm:(x,u)∈ps.zip us:=Τ (show (ps.zip us)[i]?=some (x,u) from List.getElem?_zip_eq_some.mpr ⟨h1,h2⟩);have key:∀ (q:List (Str×Α)),(q.map (·.1)).Nodup->(x,u)∈q->q.lookup x=some u:=by
  intro q
  induction q with
  | nil=>intro _ h;cases h
  | cons a q ih =>
   intro nd h;rw [θ];rw [af,aS] at nd
   rcases Υ.mp h with rfl | h
   ·simp
   ·have:(x==a.1)=false:=by
     rw [beq_eq_false_iff_ne];intro z;exact nd.1 (z▸cS h)
    rw [this];exact ih nd.2 h
 refine key _ ?_ (List.mem_reverse.mpr hm);rw [List.map_reverse];have hz:∀ (ps:List Str) (us:List Α),ps.Nodup->((ps.zip us).map (·.1)).Nodup/\∀ z∈(ps.zip us).map (·.1),z∈ps:=by
  intro ps
  induction ps with
  | nil=>intro us _;simp
  | cons a ps ih =>
   intro us nd
   cases us with
   | nil=>simp
   | cons u us =>
    have nd':=aS.mp nd;obtain ⟨i1,i2⟩:=ih us nd'.2;rw [List.zip_cons_cons,af];refine ⟨aS.mpr ⟨fun hm=>nd'.1 (i2 _ hm),i1⟩,fun z hz=>?_⟩;rcases Υ.mp hz with rfl | hz
    ·exact .head _
    ·exact .tail _ (i2 z hz)
 exact List.pairwise_reverse.mpr ((hz ps us nd).1.imp fun h=>ω h)
theorem UG {h1:Heap} {tk:Nat} (S:bY N ps (l.map (·.1)) scope) (hnd:l.as.Nodup) (hd:A.handled=none) (e0:cV P w K mg base A outer s H) (hl:vs.length=ps.length) (r:Yw vs us) (cellAt:∀ p∈l,∃ u,YA p.2.2 u/\s.heap.IsCell p.2.1 (some u)) (hoff:aX P w (off H l.as) s.heap)
  (hns:h1.Ns s.heap.objs.size (fun x=>(ps.zip us).reverse.lookup x)) (hk:∀ b o,s.heap.get? b=some o->h1.get? b=some o) :
  Inv (VI P w K mg base N qual scope f cd l.cl A outer s (off H l.as)) [] (WK N vs l.vs) (off H l.as) { s with heap:=h1,toks:=tk }:=by
 have afO:l.cl.map (·.1)=l.map (·.1):=by rw [Yz.cl,dA];rfl
 have ndN:(l.map (·.1)).Nodup:=by rw [<- S.suf];exact S.nd.sublist (gi _ _)
 have f9:∀ b:Addr,b∉(VI P w K mg base N qual scope f cd l.cl A outer s (off H l.as)).ex:=fun b z=>absurd (show b∈([]:List Addr) from z) (by simp)
 have lk:=VH ndN;have Nq:∀ p∈l,∀ q∈l,p.2.1=q.2.1->p=q:=fun p hp q hq e=>by
  obtain ⟨i,hi,e1⟩:=List.getElem_of_mem hp;obtain ⟨j,hj,e2⟩:=List.getElem_of_mem hq;have h1:l.as[i]?=some p.2.1:=by rw [Yz.as,Ν,Χ hi,e1];rfl
  have h2:l.as[j]?=some p.2.1:=by rw [Yz.as,Ν,Χ hj,e2,e];rfl
  have hij:i=j:=by
   obtain ⟨g1,g2⟩:=Ι.mp h1;obtain ⟨g3,g4⟩:=Ι.mp h2;exact (List.getElem_inj hnd).mp (g2.trans g4.symm)
  subst hij;rw [<- e1,<- e2]
 refine ⟨⟨e0.mod,S.kind,rfl,rfl,Μ _,fun y z c h1 h2=>?_,fun y hy=>?_,fun y c h _=>absurd h (by show ¬ (false=true);decide),fun _=>hd,Around.frames_deeper e0.frames,.inr ⟨rfl,rfl⟩,fun b z=>absurd z (f9 b),fun b o e=>⟨(e0.bs b o e).1,XE (e0.bs b o e).2⟩,e0.eE,fun b _ _=>f9 b,fun b z=>absurd z (f9 b),e0.cj,fun b hb=>XE (e0.eG b hb)⟩,
  rfl,e0.bare,Un.kept hk,⟨_,hns,fun i y v h1 h2 h3=>?_⟩,fun y c h=>?_,XE (e0.hok.fresh (Μ _)),fun y c h=>?_,fun p hp=>absurd (show p∈([]:List (Addr×Obj)) from hp) (by simp),hoff.kept hk,?_⟩
 ·obtain ⟨p,hp,e1,e2⟩:=Wd h1
  obtain ⟨q,hq,e3,e4⟩:=Wd h2;have:=Nq p hp q hq (e2.trans e4.symm);rw [<- e1,<- e3,this]
 ·have hy:scope.names.lookup y=some .cell\/scope.names.lookup y=some .free:=hy
  rcases hy with hy | hy
  ·exact absurd rfl (S.gG _ (bu hy))
  ·obtain ⟨p,hp,e⟩:=aw.mp (S.all _ (bu hy) rfl)
   exact ⟨p.2.1,by show l.cl.lookup y=_;rw [<- show p.1=y from e];exact lk p hp⟩
 ·have hvl:l.vs.length=(l.map (·.1)).length:=by rw [Yz.vs,Ε,Ε]
  have hsl:=S.len;unfold WK at h2;by_cases hi:i<vs.length
  ·have ha:vs[i]?=some v:=by
    rw [ca,ag (by simpa using hi),Ν] at h2
    cases e:vs[i]? with
    | none=>rw [e] at h2;cases h2
    | some a=>rw [e] at h2;cases h2;rfl
   obtain ⟨u,hu,rv⟩:=r.get ha;have hp:ps[i]?=some y:=by
    rw [<- S.pre,List.getElem?_take_of_lt (by omega)];exact h1
   have rT:ps.Nodup:=by rw [<- S.pre];exact S.nd.sublist (List.take_sublist _ _)
   exact ⟨u,rv,.inl ⟨S.par y (Τ hp),Qd rT hp hu⟩⟩
  ·by_cases hi2:i<vs.length+(N.length - vs.length - l.vs.length)
   ·rw [ag (by rw [Ζ,Ε,dQ];exact hi2),ar (by rw [Ε];omega),List.getElem?_replicate] at h2
    split at h2<;>cases h2
   ·rw [ar (by rw [Ζ,Ε,dQ];omega),Ζ,Ε,dQ,Ν] at h2
    obtain ⟨v',hv',e⟩:=ο.mp h2
    cases e
    have hv2:(l.map fun p=>p.2.2)[i - (vs.length+(N.length - vs.length - l.vs.length))]?=some _:=hv';rw [Ν] at hv2
    obtain ⟨p,hp,rfl⟩:=ο.mp hv2;have hpm:=Τ hp;have hy:(l.map (·.1))[i - (vs.length+(N.length - vs.length - l.vs.length))]?=some y:=by
     rw [<- S.suf,List.getElem?_drop];rw [show N.length - (l.map (·.1)).length+(i - (vs.length+(N.length - vs.length - l.vs.length)))=i by omega];exact h1
    rw [Ν,hp] at hy
    have ey:p.1=y:=Λ hy;obtain ⟨u,ru,hc⟩:=cellAt p hpm;obtain ⟨o,ho,hd'⟩:=hc;refine ⟨u,ru,.inr ⟨.inr ?_,p.2.1,by show l.cl.lookup y=_;rw [<- ey];exact lk p hpm,o,hk _ _ ho,hd'⟩⟩;exact S.fre y (by rw [<- ey];exact cS hpm)
 ·obtain ⟨p,hp,e1,e2⟩:=Wd (show l.cl.lookup y=some c from h)
  obtain ⟨u,ru,o,ho,hd'⟩:=cellAt p hp;exact ⟨some u,o,by rw [<- e2];exact hk _ _ ho,hd'⟩
 ·obtain ⟨p,hp,e1,e2⟩:=Wd (show l.cl.lookup y=some c from h)
  exact Vh (by rw [<- e2];exact cS hp)
 ·unfold WK
  show _=N.length
  have hvl:l.vs.length=(l.map (·.1)).length:=by rw [Yz.vs,Ε,Ε]
  have hsl:=S.len;rw [Ζ,Ζ,Ε,Ε,dQ];omega
theorem UH {h1:Heap} {tk:Nat} (S:bY N ps (l.map (·.1)) scope) (hnd:l.as.Nodup) (hd:A.handled=none) (e0:cV P w K mg base A outer s H) (hl:vs.length=ps.length) (r:Yw vs us) (hin:l.In H)
  (hns:h1.Ns s.heap.objs.size (fun x=>(ps.zip us).reverse.lookup x)) (hk:∀ b o,s.heap.get? b=some o->h1.get? b=some o) :
  Inv (VI P w K mg base N qual scope f cd l.cl A outer s (off H l.as)) [] (WK N vs l.vs) (off H l.as) { s with heap:=h1,toks:=tk } :=
 UG S hnd hd e0 hl r (fun p hp=>(e0.hok _ _ (hin p hp)).1) (Ygd hin e0.hok) hns hk
theorem xq {Q:VK} {v:V} {u:Α} {σ':St} {H':Hp} {s':Δ} (e0:cV P w K mg base A outer s H) (hin:l.In H) (J:Inv (VI P w K mg base N qual scope f cd l.cl A outer s (off H l.as)) [] σ' H' s') (hlk:∀ p∈l,l.cl.lookup p.1=some p.2.1) (rv:YA v u) (q:(∀ c∈l.as,H' c=none)->Q v (on H' H l.as)) :
  CE outer P w H s Q u s':=by
 have un:=J.base;have nin:∀ {b:Addr},H b=none->b∉l.as:=fun hb hm=>by
  obtain ⟨p,hp,rfl⟩:=Xa hm;rw [hin p hp] at hb;cases hb
 have aZ:∀ c∈l.as,H' c=none:=fun c hc=>by
  obtain ⟨p,hp,rfl⟩:=Xa hc;exact J.aZ p.1 p.2.1 (hlk p hp)
 refine ⟨v,on H' H l.as,J.os,J.bare,⟨fun b o e n hb hx=>un.keep b o e (XE n) hb hx,fun b o e n hb hx=>un.slot b o e (XE n) hb hx,fun b o e n hx=>?_,fun b o e hx=>un.there b o e hx,fun b xs e=>?_,fun b o u e=>?_,fun b ps e=>?_⟩,fun b o e=>?_,rv,q aZ⟩
 ·rw [Y2 (nin n)]
  exact un.free b o e (XE n) hx
 ·have h1:=Qc hin e
  rw [Y2 (VG h1).2];exact un.tups b xs h1
 ·have h1:=WD hin e fun φ z=>by cases z
  rw [Y2 (VG h1).2];exact un.bI b o u h1
 ·have h1:=WD hin e fun φ z=>by cases z
  rw [Y2 (VG h1).2];exact un.bU b ps h1
 ·by_cases hb:b∈l.as
  ·rw [VZ hb] at e
   obtain ⟨p,hp,rfl⟩:=Xa hb;rw [hin p hp] at e
   cases e
   obtain ⟨⟨u,r,oc,ho,hd'⟩,_⟩:=e0.hok _ _ (hin p hp);refine Uk r ⟨oc,un.keep _ _ ho (Vh hb) (fun hf=>?_) (by intro z;exact absurd (show p.2.1∈([]:List Addr) from z) (by simp)),hd'⟩;have:=e0.eG _ hf;rw [hin p hp] at this;cases this
  ·rw [Y2 hb] at e
   refine (J.hok b o e).stay (fun _ _ _ q=>q) (fun c q=>?_) fun c xs q=>?_
   ·rw [Y2 fun hc=>?_]
    ·exact q
    ·rw [aZ c hc] at q;cases q
   ·rw [Y2 fun hc=>?_]
    ·exact q
    ·rw [aZ c hc] at q;cases q
end
def W8 (H:Hp) (f c:Addr) (fd:bg) (qual:Str) (l:Yz):Prop:=H f=some (bK f fd)/\H c=some (cX c qual)/\l.In H
theorem HD {P:Ο} {w:ε} {K:Κ} {mg:Str->Option Α} {base:Heap} {k:Nat} {f c:Addr} {name qual:Str} {params:hV} {body:List Stmt} {scope:cw} {doc pm ctv:Α} {N ps:List Str} {l:Yz} {sp:List V->Hp->VK->Prop}
  (S:bY N ps (l.map (·.1)) scope) (hnd:l.as.Nodup) (len:∀ vs H Q,sp vs H Q->vs.length=ps.length)
  (hbody:∀ (A:τ) (outer:List Env) (s:Δ) (H:Hp) (vs:List V) (Q:VK),aM k (A.deeper (W.envX qual scope s.heap.objs.size f (.ref c) l.cl))->sp vs H Q ->
   ∃ t,cW (VI P w K mg base N qual scope f (.ref c) l.cl A outer s H) body t/\t { nx:=fun _ H'=>Q .non H',rt:=Q } (WK N vs l.vs) H) :
  aY P w K mg base bV (k+1) f (W.fnX name qual params body scope l.cl .none .none doc pm none (.ref c) ctv) ps
   (fun vs H Q _=>W8 H f c (W.fnX name qual params body scope l.cl .none .none doc pm none (.ref c) ctv) qual l/\sp vs (off H l.as) fun v H'=>(∀ c∈l.as,H' c=none)->Q v (on H' H l.as)):=by
 refine ⟨fun vs H Q E h=>len _ _ _ h.2,fun A outer s H args us vs Q E hr e0 hb r hsp=>?_⟩;obtain ⟨⟨hf,hc,hin⟩,hsp⟩:=hsp;have hl:=len _ _ _ hsp;have lim:s.heap.NoLimit:=e0.mod.nolimit.keeps fun b o e=>(e0.bs b o e).1
 have hfo:=(e0.hok _ _ hf).1;have hco:s.heap.CodeRec (.ref c) qual:=(e0.hok _ _ hc).1;have hlu:ps.length=us.length:=by rw [<- hl];exact r.length
 refine codeAny_call_function hr.depth hfo rfl S.co S.gen rfl hco (hb _ _ _ _ ?_);refine eS S.gG (fun y hy=>S.par y.1 (dP hy).1) (fun h₁ hns hsb=>?_) S.kind;have hk₁:∀ b o,s.heap.get? b=some o->h₁.get? b=some o:=fun b o e=>hsb.extBut b o (υ (Ρ e)) (Η _ e)
 refine ⟨lim.keeps hk₁,codeAny_func ?_⟩;obtain ⟨t,ht,hq⟩:=hbody A outer s (off H l.as) vs _ (hr.deeper _) hsp;have I:=UH (cd := .ref c) (qual:=qual) (f:=f) (tk:=s.toks+(ps.zip us).length) S hnd hr.hd e0 hl r hin hns hk₁;have lk:=VH (l:=l) (by rw [<- S.suf];exact S.nd.sublist (gi _ _));refine bo (ht [] _ _ _ _ I hq) (fun fl s' hs=>?_) fun e s' hs=>hs.elim
 cases fl with
 | ret u =>
  obtain ⟨v,σ',H',J,rv,q⟩:=hs;exact xq e0 hin J lk rv q
 | next =>
  obtain ⟨σ',H',J,q⟩:=hs;exact xq (v:=V.non) (u:=bE) e0 hin J lk rfl q
 | brk =>
  obtain ⟨_,_,_,q⟩:=hs;exact bi q
 | cont =>
  obtain ⟨_,_,_,q⟩:=hs;exact bi q
def Bm (mg:Str->Option Α) (base:Heap):Prop:=∃ bm ob,mg "__builtins__"=some (.ref bm)/\bm≠f8/\bm≠ba/\base.get? bm=some ob/\ob.cls = .type "module"/\ob.dict=some f8/\ob.data = .plain
section
variable {X:Cx} {pins:List (Addr×Obj)} {σ:St} {H:Hp} {s:Δ}
theorem Inv.tD {P c':Addr} {ps more:Array Α} {h':Heap} {tk:Nat} {fd:bg} {qual:Str} (I:Inv X pins σ H s) (hP:H P=some (.aN ps)) (hx:Heap.ExtBut P s.heap h') (hge:s.heap.objs.size<=c') (hlt:c'<h'.objs.size) (hrec:h'.CodeRec (.ref c') qual) (htb:h'.get? P=some (W.tabObj (ps++more))) :
  Inv X pins σ (upd (upd (upd H P (.aN (ps++more))) c' (cX c' qual)) h'.objs.size (bK h'.objs.size fd)) { s with heap:=h'.push { cls := .type "function",data := .func fd },toks:=tk }:=by
 have hPl:P<s.heap.objs.size:=I.hok.lt hP;have hcf:s.heap.objs.size<=h'.objs.size:=ah hge (eK hlt);have oU:∀ {b:Addr},b<s.heap.objs.size->b≠c'/\b≠h'.objs.size:=fun e=>⟨υ (ρ e hge),υ (ρ e hcf)⟩
 have fL:∀ {b:Addr} {o:HO},H b=some o->b≠c'/\b≠h'.objs.size:=fun e=>oU (I.hok.lt e)
 have push:∀ b o,h'.get? b=some o->(h'.push { cls := .type "function",data := .func fd }).get? b=some o:=fun b o e=>Η _ e
 have hget:∀ {b:Addr},b≠P->b≠c'->b≠h'.objs.size->(upd (upd (upd H P (.aN (ps++more))) c' (cX c' qual)) h'.objs.size (bK h'.objs.size fd)) b=H b:=fun h1 h2 h3=>by rw [Yg h3,Yg h2,Yg h1]
 have HF:(upd (upd (upd H P (.aN (ps++more))) c' (cX c' qual)) h'.objs.size (bK h'.objs.size fd)) P=some (.aN (ps++more)):=by rw [Yg (oU hPl).2,Yg (oU hPl).1,Yb]
 refine I.un ⟨fun b o e n _ _=>push b o (hx b o (fun z=>by rw [z,hP] at n;cases n) e),fun b o e n _ _=>⟨o.slots,push b o (hx b o (fun z=>by rw [z,hP] at n;cases n) e)⟩,fun b o e n _=>?_,fun b o e _=>?_,fun b xs e=>?_,fun b o u e=>?_,fun b qs e=>?_⟩ fun b o e=>?_
 ·have:=Ρ e
  rw [hget (fun z=>by rw [z,hP] at n;cases n) (oU this).1 (oU this).2];exact n
 ·by_cases hb:b=P
  ·subst hb;exact ⟨_,push _ _ htb⟩
  ·exact ⟨o,push b o (hx b o hb e)⟩
 ·rw [hget (YI e hP (by intro z;cases z)) (fL e).1 (fL e).2];exact e
 ·rw [hget (YI e hP (by intro z;cases z)) (fL e).1 (fL e).2];exact e
 ·by_cases hb:b=P
  ·subst hb
   rw [hP] at e;cases e
   exact ⟨more,HF⟩
  ·exact ⟨#[],by rw [hget hb (fL e).1 (fL e).2,e];simp⟩
 ·by_cases h3:b=h'.objs.size
  ·subst h3
   rw [Yb] at e;cases e
   exact xg (Ω _ rfl)
  ·by_cases h2:b=c'
   ·subst h2
    rw [Yg h3,Yb] at e;cases e
    exact YgR (hrec.push _)
   ·by_cases h1:b=P
    ·subst h1
     rw [HF] at e;cases e
     exact push _ _ htb
    ·rw [hget h1 h2 h3] at e
     refine (I.hok b o e).stay (fun c u hc q=>push c u (hx c u ?_ q)) (fun c q=>?_) fun c xs q=>?_
     ·rcases hc with rfl | hc
      ·exact h1
      ·exact YI hc hP (by intro z;cases z)
     ·rw [hget (YI q hP (by intro z;cases z)) (fL q).1 (fL q).2];exact q
     ·rw [hget (YI q hP (by intro z;cases z)) (fL q).1 (fL q).2];exact q
end
def tE (P:Addr) (pos:Pos) (q:Str) (mk:Addr->bg->Prop) (H:Hp) (Q:VK):Prop:=∃ ps,H P=some (.aN ps)/\TriplesOk ps.toList /\
 ((codeAmong pos ps.toList=none/\∀ f c fd,H f=none->H c=none->f≠c->mk c fd->Q (.ref f) (upd (upd (upd H P (.aN (ps++#[cy pos.line,cy pos.col,.ref c]))) c (cX c q)) f (bK f fd))) \/
  ∃ c,codeAmong pos ps.toList=some (.ref c)/\∀ f fd,H f=none->mk c fd->Q (.ref f) (upd H f (bK f fd)))
section
variable {X:Cx} {c P:Addr} {name qual:Str} {params:hV} {body:List Stmt} {eb:Expr} {scope:cw} {clos:List (Str×Addr)} {pos:Pos} {ln:Nat}
abbrev xr (name qual:Str) (params:hV) (body:List Stmt) (scope:cw) (clos:List (Str×Addr)) (c:Addr) (fd:bg):Prop:=∃ doc pm ctv,fd=W.fnX name qual params body scope clos .none .none doc pm none (.ref c) ctv
abbrev HJ (qual:Str) (params:hV) (body:Expr) (scope:cw) (clos:List (Str×Addr)) (c:Addr) (fd:bg):Prop:=∃ pm ctv,fd=ix "<lambda>" qual params body scope clos pm (.ref c) ctv
theorem Qw {pins:List (Addr×Obj)} {σ:St} {H:Hp} {s:Δ} {ps:Array Α} (I:Inv X pins σ H s) (bm:Bm X.mg X.base) (hP:H P=some (.aN ps)):ba≠P/\s.heap.BuiltinsAt X.mg P:=by
 refine ⟨fun z=>?_,?_⟩
 ·obtain ⟨o,es,ep,e,_⟩:=I.mod.glob
  have:=(I.bs _ _ e).2;rw [z,hP] at this;cases this
 ·obtain ⟨b,ob,h1,h2,h3,h4,h5⟩:=bm
  refine ⟨b,ob,h1,h2,h3,fun z=>?_,(I.bs _ _ h4).1,h5⟩;have:=(I.bs _ _ h4).2;rw [z,hP] at this;cases this
theorem El {pins:List (Addr×Obj)} {σ:St} {H:Hp} {s:Δ} {Q:VK} (bm:Bm X.mg X.base) (C:eP X.base c P) (hcode:X.env.code = .ref c) (hcl:ib scope X.env=pure clos) (I:Inv X pins σ H s) (h:tE P pos qual (xr name qual params body scope clos) H Q) :
  Ξ (γ X.prog X.w) X.A (makeFunction name qual params (.stmts body) scope X.env [] [] [] pos ln) (EP X pins σ Q) X.xe s:=by
 obtain ⟨ps,hP,ht,h⟩:=h;obtain ⟨hgP,hb⟩:=Qw I bm hP;have oV:s.heap.get? P=some (W.tabObj ps):=I.hok P _ hP;rcases h with ⟨hnf,h⟩ | ⟨c',hf,h⟩
 ·refine W.makeFunction_K (mg:=X.mg) hcl I.ok.glob (I.mod.glob.keeps I.bk) hcode (C.keeps I.bk) oV ht hnf hgP hb fun c' ctv doc h' tk hx hge hlt hrec htb=>?_
  refine ⟨.ref h'.objs.size,_,I.tD hP hx hge hlt hrec htb,rfl,h _ _ _ (I.hok.fresh (ah hge (eK hlt))) (I.hok.fresh hge) (ek hlt) ⟨_,_,_,rfl⟩⟩
 ·refine W.makeFunction_hit (mg:=X.mg) hcl I.ok.glob (I.mod.glob.keeps I.bk) hcode (C.keeps I.bk) oV ht hf hb fun ctv doc h' tk hk hsz=>?_
  exact ⟨.ref h'.objs.size,_,I.laid (fun b o e=>Η _ (hk b o e)) hsz (xg (Ω _ rfl)),rfl,h _ _ (I.hok.fresh hsz) ⟨_,_,_,rfl⟩⟩
theorem YgS {pins:List (Addr×Obj)} {σ:St} {H:Hp} {s:Δ} {Q:VK} (bm:Bm X.mg X.base) (C:eP X.base c P) (hcode:X.env.code = .ref c) (hcl:ib scope X.env=pure clos) (I:Inv X pins σ H s) (h:tE P pos qual (HJ qual params eb scope clos) H Q) :
  Ξ (γ X.prog X.w) X.A (makeFunction "<lambda>" qual params (.expr eb) scope X.env [] [] [] pos ln) (EP X pins σ Q) X.xe s:=by
 obtain ⟨ps,hP,ht,h⟩:=h;obtain ⟨hgP,hb⟩:=Qw I bm hP;have oV:s.heap.get? P=some (W.tabObj ps):=I.hok P _ hP;rcases h with ⟨hnf,h⟩ | ⟨c',hf,h⟩
 ·refine W.kla_makeFunction (mg:=X.mg) hcl I.ok.glob (I.mod.glob.keeps I.bk) hcode (C.keeps I.bk) oV ht hnf hgP hb fun c' ctv h' tk hx hge hlt hrec htb=>?_
  refine ⟨.ref h'.objs.size,_,I.tD hP hx hge hlt hrec htb,rfl,h _ _ _ (I.hok.fresh (ah hge (eK hlt))) (I.hok.fresh hge) (ek hlt) ⟨_,_,rfl⟩⟩
 ·refine W.kla_makeFunctionHit (mg:=X.mg) hcl I.ok.glob (I.mod.glob.keeps I.bk) hcode (C.keeps I.bk) oV ht hf hb fun ctv h' tk hk hsz=>?_
  exact ⟨.ref h'.objs.size,_,I.laid (fun b o e=>Η _ (hk b o e)) hsz (xg (Ω _ rfl)),rfl,h _ _ (I.hok.fresh hsz) ⟨_,_,rfl⟩⟩
def Nr (i:Nat) (P:Addr) (pos:Pos) (q:Str) (mk:Addr->bg->Prop):TS:=fun D σ H=>tE P pos q mk H fun v H'=>D.nx (σ.set i (some v)) H'
theorem HN (i:Nat) (bm:Bm X.mg X.base) (C:eP X.base c P) (hcode:X.env.code = .ref c) (hcl:ib scope X.env=pure clos) (hN:X.N.Nodup) (hi:X.N[i]?=some name) (hx:Loc X.env.scope name) (hq:qualnameIn X.env name name=qual)
  (hd0:params.defaults=[]) (hk0:params.kw_defaults=[]) (ha:annTrees params none X.env=[]) (hf:X.fn name=true\/X.env.scope.names.lookup name=some .local) :
  PS X (.FunctionDef name params body [] none [] scope none name pos) (Nr i P pos qual (xr name qual params body scope clos)):=by
 intro pins s σ H D I h;refine W.nestDef_K hd0 hk0 ha ?_;rw [hq];refine aG (El bm C hcode hcl I h) fun v s1 ⟨x,H1,I1,r,q⟩=>?_
 exact Uc I1 hN hi hx r (fun s2 I2=>⟨_,H1,I2,q⟩) hf
def Nt (P:Addr) (pos:Pos) (q:Str) (mk:Addr->bg->Prop):TE:=fun _ H Q=>tE P pos q mk H Q
theorem HS (bm:Bm X.mg X.base) (C:eP X.base c P) (hcode:X.env.code = .ref c) (hcl:ib scope X.env=pure clos) (hq:X.env.qual++"<lambda>"=qual) (hdef:defaultsOf params X.env=([],[])) :
  PE X (.Lambda params eb scope pos) (Nt P pos qual (HJ qual params eb scope clos)):=by
 intro pins s σ H Q I h;refine W.kla_eval hdef ?_;rw [hq];exact YgS bm C hcode hcl I h
end
def lay (H:Hp):Yz->Hp
 | []=>H
 | p::l=>upd (lay H l) p.2.1 (Wz p.2.1 p.2.2)
theorem WE {H:Hp} {b:Addr}:∀ {l:Yz},b∉l.as->lay H l b=H b
 | [],_=>rfl
 | p::l,h=>by
  have h1:b≠p.2.1:=fun z=>h (by rw [z];exact .head _)
  rw [lay,Yg h1];exact WE fun z=>h (.tail _ z)
theorem xu {H:Hp}:∀ {l:Yz},l.as.Nodup->l.In (lay H l)
 | [],_=>fun p hp=>by cases hp
 | q::l,nd=>fun p hp=>by
  have nd':=aS.mp nd;rcases Υ.mp hp with rfl | hp
  ·exact Yb
  ·have hne:p.2.1≠q.2.1:=fun z=>nd'.1 (by
    have:p.2.1∈Yz.as l:=cS (f:=fun p:Str×Addr×V=>p.2.1) hp;rw [z] at this
    exact this)
   rw [lay,Yg hne];exact xu nd'.2 p hp
def XH (X:Cx) (σ:St) (l:Yz):Prop:=l.as.Nodup/\∀ p∈l,∃ i:Nat,X.N[i]?=some p.1/\σ[i]?=some (some p.2.2)/\X.env.kindOf p.1=some .cell/\X.env.cells.lookup p.1=some p.2.1
theorem Qx {X:Cx} {pins:List (Addr×Obj)} {σ:St} {H:Hp} {s:Δ} (I:Inv X pins σ H s):∀ {l:Yz},XH X σ l->aX X.prog X.w (lay H l) s.heap
 | [],_=>I.hok
 | p::l,h=>by
  have nd':=aS.mp h.1;have ih:=Qx I (l:=l) ⟨nd'.2,fun q hq=>h.2 q (.tail _ hq)⟩;obtain ⟨i,h1,h2,h3,h4⟩:=h.2 p (.head _);obtain ⟨m,hn,hl⟩:=I.loc;obtain ⟨u,r,lk⟩:=hl i p.1 p.2.2 h1 h2 (.inr (.inl h3));rcases lk with ⟨k,_⟩ | ⟨_,c,hc,hcell⟩
  ·rw [h3] at k;cases k
  ·rw [h4] at hc
   cases hc
   refine ih.track ?_ (Uk r hcell);rw [WE nd'.1];exact I.aZ p.1 p.2.1 h4
def PR (X:Cx) (b:List Stmt) (t:(St->V->Hp->Prop)->St->Hp->Prop):Prop:=∀ (pins:List (Addr×Obj)) (s:Δ) (σ:St) (H:Hp) (R:St->V->Hp->Prop),Inv X pins σ H s->t R σ H ->
 Ξ (γ X.prog X.w) X.A (execs b X.env) (fun fl s'=>∃ u,fl = .ret u/\∃ v σ' H',Inv X pins σ' H' s'/\YA v u/\R σ' v H') X.xe s
section
variable {X:Cx} {st:Stmt} {Xd:List Stmt} {t:TS} {u:(St->V->Hp->Prop)->St->Hp->Prop} {e:Expr} {te:TE} {pos:Pos}
def Nu (te:TE):(St->V->Hp->Prop)->St->Hp->Prop:=fun R σ H=>te σ H fun v H'=>R σ v H'
theorem HW (he:PE X e te):PR X [.Return (some e) pos] (Nu te):=by
 intro pins s σ H R I h;refine gV (wpAny_Return_some (aG (he pins s σ H _ I h) fun v s1 ⟨x,H1,I1,r1,q1⟩=>⟨v,rfl,x,σ,H1,I1,r1,q1⟩))
def Nv (t:TS) (u:(St->V->Hp->Prop)->St->Hp->Prop):(St->V->Hp->Prop)->St->Hp->Prop:=fun R σ H=>t { nx:=u R,rt:=fun _ _=>False } σ H
theorem HX (h1:PS X st t) (h2:PR X Xd u):PR X (st::Xd) (Nv t u):=by
 intro pins s σ H R I h;refine gV (aG (h1 pins s σ H _ I h) fun f s1 q=>?_)
 cases f with
 | next =>
  obtain ⟨σ',H',I',q⟩:=q;exact h2 pins s1 σ' H' R I' q
 | ret v=>obtain ⟨_,_,_,_,_,q⟩:=q;exact q.elim
 | brk=>obtain ⟨_,_,_,q⟩:=q;exact q.elim
 | cont=>obtain ⟨_,_,_,q⟩:=q;exact q.elim
end
theorem dU.okC {P:Ο} {w:ε} {K:Κ} {mg:Str->Option Α} {base:Heap} {x qual:Str} {st:Stmt} {f:Addr} {fd:bg} {N ps:List Str} {k:Nat} {sp:Sp} (F:dU K x qual st f fd) (S:ak N ps (Yi st)) (len:∀ vs H Q E,sp vs H Q E->vs.length=ps.length)
  (hbody:∀ (cdv:Α) (A:τ) (outer:List Env) (s:Δ) (H:Hp) (vs:List V) (Q:VK) (E:XK),fd.code=cdv->aM k (A.deeper (ia qual (Yi st) s.heap.objs.size f cdv))->sp vs H Q E ->
   ∃ t,PR (Wu bV P w K mg base N qual (Yi st) f cdv A outer s H E).dI (YS st) t /\
    t (fun σ v H'=>∃ l,XH (Wu bV P w K mg base N qual (Yi st) f cdv A outer s H E).dI σ l/\((∀ c∈l.as,H' c=none)->Q v (lay H' l))) (Xz N vs) H):aY P w K mg base bV (k+1) f fd ps sp:=by
 obtain ⟨oc,od,kV,doc,pm,an,cdv,ct,osl,rfl,lk,hcd⟩:=F.ex;refine ⟨len,fun A outer s H args us vs Q E hr e0 hb r hsp=>?_⟩;have hl:=len _ _ _ _ hsp;have KX:K.In s.heap:=e0.mod.iD.keeps fun b o e=>(e0.bs b o e).1
 have lim:s.heap.NoLimit:=e0.mod.nolimit.keeps fun b o e=>(e0.bs b o e).1
 have hkind:∀ y∈ps.zip us,(Yi st).names.lookup y.1=some .local\/((Yi st).names.lookup y.1=some .cell/\((cellsFrom (s.heap.objs.size+1) (Yi st).names []).lookup y.1).isSome=true):=fun ⟨n,v⟩ hy=>by
  rcases S.par n (dP hy).1 with q | q
  ·exact .inl q
  ·exact .inr ⟨q,PySem.W.cellsFrom_some _ _ _ (.inl q)⟩
 refine codeAny_call_function hr.depth (KX _ _ lk) rfl S.co S.gen rfl (PySem.W.codeRec_of KX hcd) (hb _ _ _ _ ?_);refine wpAny_newFunctionEnv_cells S.kind hkind fun env he s1 xx=>?_
 subst he;refine ⟨lim.keeps xx.toInCall.keep,codeAny_func ?_⟩;obtain ⟨t,ht,hq⟩:=hbody cdv A outer s H vs Q E rfl (hr.deeper _) hsp;have I:Inv (Wu bV P w K mg base N qual (Yi st) f cdv A outer s H E).dI [] (Xz N vs) H s1:=(Qq (CX:=bV) (E:=E) S hr.hd e0 hl r xx).wish _;refine bo (ht [] s1 (Xz N vs) H _ I hq) (fun fl s' hs=>?_) fun e s' hs=>hs.elim
 obtain ⟨u,rfl,v,σ',H',J,rv,l,hc,q⟩:=hs;have un:=J.base;have hab:∀ b∈l.as,s.heap.objs.size<=b:=fun b hb=>by
  obtain ⟨p,hp,rfl⟩:=Xa hb;obtain ⟨i,h1,h2,h3,h4⟩:=hc.2 p hp;exact J.ok.cab p.1 p.2.1 rfl h4
 have hno:∀ b∈l.as,H' b=none:=fun b hb=>by
  obtain ⟨p,hp,rfl⟩:=Xa hb;obtain ⟨i,h1,h2,h3,h4⟩:=hc.2 p hp;exact J.aZ p.1 p.2.1 h4
 have keep:∀ {b:Addr} {o:HO},H' b=some o->lay H' l b=some o:=fun {b o} e=>by
  rw [WE fun hb=>?_]
  ·exact e
  ·rw [hno b hb] at e;cases e
 refine ⟨v,lay H' l,J.os,J.bare,⟨un.keep,un.slot,fun b o e n hx=>?_,un.there,fun b xs e=>keep (un.tups b xs e),fun b o u e=>keep (un.bI b o u e),fun b qs e=>?_⟩,Qx J hc,rv,q hno⟩
 ·rw [WE fun hb=>?_]
  ·exact un.free b o e n hx
  ·have h1:=hab b hb
   have h2:=Ρ (show s.heap.get? b=some o from e);exact absurd (ρ h2 h1) (de _)
 ·obtain ⟨more,e'⟩:=un.bU b qs e
  exact ⟨more,keep e'⟩
def HY (g:Gx) (k i:Nat) (t:TA):TE:=fun σ H Q=>∃ f fd ps sp,σ[i]?=some (some (.ref f))/\aY g.P g.w g.K g.mg g.base bV k f fd ps sp/\(∀ us:List Α,us.length=ps.length->fo fd ⟨us,[]⟩=pure (ps.zip us))/\H f=some (bK f fd)/\t σ H fun vs H1=>H1 f=some (bK f fd)/\sp vs H1 Q E0
section
variable {X:Cx} {g:Gx} {k j i:Nat} {x:Str} {p pos:Pos} {e:Expr} {es:List Expr} {t:TA}
theorem Qe {pins:List (Addr×Obj)} {σ:St} {H:Hp} {s:Δ} {f:Addr} {fd:bg} (I:Inv X pins σ H s) (h:H f=some (bK f fd)):W.FnAt f s.heap:=⟨_,_,_,_,(I.hok _ _ h).1⟩
theorem Vo (i:Nat) (hr:aM k X.A) (ha:PA X (e::es) t) (hj:j<=k) (hX:X.gx=g) (hN:X.N[i]?=some x) (hv:ou X.env.scope x) (hdb:(x==("__debug__":Str))=false)
  (hcd:(x==("__classdict__":Str))=false) (he:Φ (e::es) X.env=(false,eval e X.env)::Φ es X.env) (hpl:(bv pos (Φ es X.env)).any (·.1)=false):PE X (.Call (.Name x p) (e::es) [] pos) (HY g j i t):=by
 subst hX;intro pins s σ H Q I h;obtain ⟨f,fd,ps,sp,hσ,F,b,hf,ht⟩:=h;refine bz (aG (Q9 hN hv hdb hcd pins s σ H (fun v H1=>v = .ref f/\H1 f=some (bK f fd)/\t σ H1 fun vs H1=>H1 f=some (bK f fd)/\sp vs H1 Q E0) I (Uo hσ ⟨rfl,hf,ht⟩)) fun u s1 ⟨v,H1,I1,r,e,hf1,ht⟩=>?_);subst e;obtain rfl:u=ac f:=r;refine PySem.W.callWith_F (Qe I1 hf1) (aG (ha pos pins s1 σ H1 _ I1 ht) fun us s2 ⟨vs,H2,I2,r2,hf2,q⟩=>⟨Qe I2 hf2,?_⟩) he hpl;exact VA F (hr.mono hj) (.all b) .nil VT I2 r2 (by rw [ay];exact q)
theorem Qy (i:Nat) (hr:aM k X.A) (hj:j<=k) (hX:X.gx=g) (hN:X.N[i]?=some x) (hv:ou X.env.scope x) (hdb:(x==("__debug__":Str))=false)
  (hcd:(x==("__classdict__":Str))=false):PE X (.Call (.Name x p) [] [] pos) (HY g j i UV):=by
 subst hX;intro pins s σ H Q I h;obtain ⟨f,fd,ps,sp,hσ,F,b,hf,ht⟩:=h;have ht:H f=some (bK f fd)/\sp [] H Q E0:=ht;refine bz (aG (Q9 hN hv hdb hcd pins s σ H (fun v H1=>v = .ref f/\H1 f=some (bK f fd)/\sp [] H1 Q E0) I (Uo hσ ⟨rfl,hf,ht.2⟩)) fun u s1 ⟨v,H1,I1,r,e,hf1,ht⟩=>?_);subst e;obtain rfl:u=ac f:=r;refine PySem.W.callWith_F0 (Qe I1 hf1) ?_;exact VA F (hr.mono hj) (.all b) .nil VT I1 .nil (by rw [ay];exact ht)
end
abbrev xG:=List (Str×Addr×Addr)
theorem YdA {P:Ο} {w:ε} {K:Κ} {mg mb:Str->Option Α} {CX:dh} {k:Nat} {fa a:Addr} {fd:bg} {x:Str} {sp:Sp} {s₁:Δ} {vs:List Α} {ns:List Int} (tabs:xG)
  (KX:K.In s₁.heap) (hns:s₁.heap.Ns ba mg) (hb:s₁.heap.Ns f8 mb) (hbb:∀ x:Str,x≠"__name__"->mb x=dy x) (hlim:s₁.heap.NoLimit) (hg:s₁.gens=#[])
  (ha:s₁.heap.get? a=some { cls := .type "list",data := .seq vs.toArray }) (hi:IntsAre vs ns) (hl:ns.length<=sizeLine) (hr:aM k callerA)
  (hT:∀ q∈tabs,eP s₁.heap q.2.1 q.2.2/\s₁.heap.get? q.2.2=some (eM #[])) (hK:∀ q∈tabs,K.lookup q.2.2=none)
  (bmn:∃ bm ob,mg "__builtins__"=some (.ref bm)/\bm≠f8/\s₁.heap.get? bm=some ob/\ob.cls = .type "module"/\ob.dict=some f8/\ob.data = .plain)
  (F:∀ base:Heap,K.In base->base.Ns ba mg->Bm mg base->(∀ q∈tabs,eP base q.2.1 q.2.2)->aY P w K mg base CX k fa fd [x] sp) (hbind:∀ (s:Δ) (u:Α),BindsTo s fd ⟨[u],[]⟩ [(x,u)])
  (hsp:∀ H:Hp,(∀ q∈tabs,H q.2.2=some (.aN #[]))->ao K H a (ns.map V.int)->sp [.ref a] H (fun v _=>v = .bl true) fun _ _ _=>False)
  (hCX:∀ H e s',CX [] H s₁ (fun _ _ _=>False) e s'->False) :
  f6 (γ P w) callerA (.call (.ref fa) ⟨[.ref a],[]⟩) (fun r s'=>r = .ok (.ret (.bool true))/\OldK s₁.heap s'.heap/\s'.os=s₁.os/\f7 s'.gens) s₁:=by
 have rv:=Qs hi;have lenV:=hi.length;have tobj:∀ b∈tabs.map (·.2.2),s₁.heap.get? b=some (eM #[]):=fun b hb=>by
  obtain ⟨q,hq,rfl⟩:=aw.mp hb;exact (hT q hq).2
 have aT:a∉tabs.map (·.2.2):=fun hb=>by
  have:=tobj a hb;rw [ha] at this
  cases this
 have core:∀ H:Hp,(∀ b,H b=none\/(∃ o xs,H b=some (.bF o (.lst xs)))\/(b∈tabs.map (·.2.2)/\H b=some (.aN #[])))->ao K H a (ns.map V.int)->aX P w H s₁.heap->(∀ b,H b≠none->b=a\/b∈tabs.map (·.2.2))->(H a≠none->K.lookup a=none)->(∀ q∈tabs,H q.2.2=some (.aN #[])) ->
   f6 (γ P w) callerA (.call (.ref fa) ⟨[.ref a],[]⟩) (fun r s'=>r = .ok (.ret (.bool true))/\OldK s₁.heap s'.heap/\s'.os=s₁.os/\f7 s'.gens) s₁:=by
  intro H hO hS hok hA hKa hTb;have fu:∀ {b:Addr} {o:Obj},s₁.heap.get? b=some o->H b=none->(WF s₁.heap H).get? b=some o:=fun e n=>O2 e n
  have Ia:∀ {b:Addr} {o:Obj},s₁.heap.get? b=some o->o.cls ≠ .type "list"->o≠eM #[]->H b=none:=fun {b o} e d1 d2=>by
   cases q:H b with
   | none=>rfl
   | some u =>
    rcases hA b (by rw [q];simp) with e' | e'
    ·subst e'
     rw [ha] at e;cases e
     exact absurd rfl d1
    ·rw [tobj b e'] at e
     exact absurd (Λ e).symm d2
  have f9:∀ {b:Addr} {o:Obj} {es:Array DictEntry} {ep:Nat},s₁.heap.get? b=some o->o.data = .dict es ep->H b=none:=fun {b o es ep} e d=>by
   cases q:H b with
   | none=>rfl
   | some u =>
    rcases hA b (by rw [q];simp) with e' | e'
    ·subst e'
     rw [ha] at e;cases e
     have d':Data.seq vs.toArray _=Data.dict es ep:=d
     cases d'
    ·rw [tobj b e'] at e
     cases e
     have d':js #[]=Data.dict es ep:=d
     cases d'
  have tG:∀ {b:Addr} {m:Str->Option Α},s₁.heap.Ns b m->(WF s₁.heap H).Ns b m:=fun {b m} ⟨o,es,ep,e,d,r⟩=>⟨o,es,ep,fu e (f9 e d),d,r⟩
  have Ib:K.In (WF s₁.heap H):=fun b o e=>fu (KX b o e) (by
   cases q:H b with
   | none=>rfl
   | some u =>
    rcases hA b (by rw [q];simp) with e' | e'
    ·subst e'
     rw [hKa (by rw [q];simp)] at e;cases e
    ·obtain ⟨z,hz,rfl⟩:=aw.mp e'
     rw [hK z hz] at e;cases e)
  have hM:Mod K mg (WF s₁.heap H):=⟨Ib,tG hns,⟨mb,tG hb,hbb⟩,let ⟨mc,h1,h2⟩:=hlim;⟨mc,tG h1,h2⟩⟩;have e0:cV P w K mg (WF s₁.heap H) callerA [] s₁ H:=⟨rfl,hM,fun b o e=>O4 e,Nat.le_of_eq (O1 _ _),trivial,fun b hb=>absurd (show b∈([]:List Addr) from hb) (by simp),hok,.of_eq hg⟩;have hBm:Bm mg (WF s₁.heap H):=by
   obtain ⟨bm,ob,b1,b2,b3,b4,b5,b6⟩:=bmn;refine ⟨bm,ob,b1,b2,fun z=>?_,fu b3 (Ia b3 (by rw [b4];decide) fun z=>by rw [z] at b4;cases b4),b4,b5,b6⟩;obtain ⟨o,es,ep,e,d,_⟩:=hns;rw [z,e] at b3;cases b3
   rw [d] at b6;cases b6
  have hCd:∀ q∈tabs,eP (WF s₁.heap H) q.2.1 q.2.2:=fun q hq=>by
   obtain ⟨o,vs',file,tf,flags,tg,inF,text,tt,e1,e2,r⟩:=(hT q hq).1;exact ⟨o,vs',file,tf,flags,tg,inF,text,tt,fu e1 (Ia e1 (by rw [e2];decide) fun z=>by rw [z] at e2;cases e2),e2,r⟩
  refine fA ((F _ Ib (tG hns) hBm hCd).run callerA [] s₁ H ⟨[.ref a],[]⟩ [.ref a] [.ref a] _ _ hr e0 (hbind s₁ (.ref a)) (.cons rfl .nil) (hsp H hTb hS)) fun r s' h=>?_
  cases r with
  | error e=>exact (hCX H e s' h).elim
  | ok fl =>
   cases fl with
   | next=>exact bi h
   | brk=>exact bi h
   | cont=>exact bi h
   | ret u =>
    obtain ⟨v,H',os,bare,un,hok',r',q⟩:=h;have q':v = .bl true:=q;subst q';obtain rfl:u=i4 true:=r';have each:∀ b o,s₁.heap.get? b=some o->s'.heap.get? b=some o\/((∃ z∈tabs,z.2.2=b)/\o=eM #[]/\∃ ps,s'.heap.get? b=some (eM ps)):=fun b o e=>by
     rcases hO b with q | ⟨ob,xs,z⟩ | ⟨z1,z2⟩
     ·exact .inl (un.keep b o e q (by intro z;exact absurd (show b∈([]:List Addr) from z) (by simp)) (by simp))
     ·have z2:=un.bI b ob _ z
      obtain ⟨e1,_⟩:=hok b _ z;obtain ⟨e2,_⟩:=hok' b _ z2;rw [e] at e1;cases e1
      exact .inl e2
     ·obtain ⟨q,hq,e3⟩:=aw.mp z1
      obtain ⟨more,e4⟩:=un.bU b _ z2;have e5:s'.heap.get? b=some (eM (#[]++more)):=hok' b _ e4;rw [tobj b z1] at e
      exact .inr ⟨⟨q,hq,e3⟩,(Λ e).symm,_,e5⟩
    refine ⟨rfl,⟨fun b o e=>?_,fun b o e=>?_⟩,os,bare⟩
    ·rcases each b o e with h | ⟨⟨z,hz,rfl⟩,rfl,ps,h⟩
     ·exact .inl h
     ·exact .inr (.inl ⟨((hT z hz).1.tab (hT z hz).2).isCodeTable,rfl,#[],ps,rfl,by rw [Array.empty_append];exact h⟩)
    ·rcases each b o e with h | ⟨_,_,ps,h⟩
     ·exact ⟨o,h⟩
     ·exact ⟨_,h⟩
 have xH:∀ q∈tabs,q.2.2∈tabs.map (·.2.2):=fun q hq=>cS hq
 have xJ:∀ {H:Hp} {b:Addr},b∈tabs.map (·.2.2)->YN P w H s₁.heap b (.aN #[]):=fun hb=>tobj _ hb
 cases hk:K.lookup a with
 | some o =>
  have e:=KX a o hk;rw [ha] at e
  cases e
  refine core (fun b=>if b∈tabs.map (·.2.2) then some (.aN #[]) else none) (fun b=>?_) (.inr ⟨_,vs.toArray,_,hk,rfl,rfl,rfl,by rw [ν,lenV];exact hl,by simpa using rv⟩) (fun b u z=>?_) (fun b z=>?_) (fun z=>absurd (if_neg aT) z) fun q hq=>if_pos (xH q hq)
  ·by_cases hb:b∈tabs.map (·.2.2)
   ·exact .inr (.inr ⟨hb,if_pos hb⟩)
   ·exact .inl (if_neg hb)
  ·by_cases hb:b∈tabs.map (·.2.2)
   ·have z':=(if_pos hb).symm.trans z
    cases z'
    exact xJ hb
   ·have z':=(if_neg hb).symm.trans z
    cases z'
  ·by_cases hb:b∈tabs.map (·.2.2)
   ·exact .inr hb
   ·exact absurd (if_neg hb) z
 | none =>
  refine core (fun b=>if b∈tabs.map (·.2.2) then some (.aN #[]) else if b=a then some (.bF { cls := .type "list",data := .seq vs.toArray } (.lst (ns.map V.int))) else none) (fun b=>?_) (.inl (.inr ⟨{ cls := .type "list",data := .seq vs.toArray },(if_neg aT).trans (if_pos rfl)⟩)) (fun b u z=>?_) (fun b z=>?_) (fun _=>hk) fun q hq=>if_pos (xH q hq)
  ·by_cases hb:b∈tabs.map (·.2.2)
   ·exact .inr (.inr ⟨hb,if_pos hb⟩)
   ·by_cases hb2:b=a
    ·exact .inr (.inl ⟨_,_,(if_neg hb).trans (if_pos hb2)⟩)
    ·exact .inl ((if_neg hb).trans (if_neg hb2))
  ·by_cases hb:b∈tabs.map (·.2.2)
   ·have z':=(if_pos hb).symm.trans z
    cases z'
    exact xJ hb
   ·have z1:=(if_neg hb).symm.trans z
    by_cases hb2:b=a
    ·have z':=(if_pos hb2).symm.trans z1
     cases z'
     subst hb2;exact ⟨ha,by rw [Ε];exact hl,vs,_,rv,ha⟩
    ·have z':=(if_neg hb2).symm.trans z1
     cases z'
  ·by_cases hb:b∈tabs.map (·.2.2)
   ·exact .inr hb
   ·by_cases hb2:b=a
    ·exact .inl hb2
    ·exact absurd ((if_neg hb).trans (if_neg hb2)) z
def V0 (K:Κ) (tabs:xG):Sp:=fun vs H Q _=>∃ (a:Addr) (ns:List Int),vs=[.ref a]/\ao K H a (ns.map V.int)/\ns.length<=63/\(∀ q∈tabs,H q.2.2=some (.aN #[]))/\∀ H',Q (.bl true) H'
theorem YeA {l:PySem.W.OpenLaw} {q:Ο} {loose:List Str} {XP:(Str->Option Α)->Heap->Prop} {YP:ε->Heap->Prop} {d:DefRec} {K:Params->Κ} (tabs:xG) (k:Nat) (x:Str) (st:Stmt) (N:List Str) (hn:l.most=some 63) (hdf:d.params.defaults=[]) (hk:aM (k+1) callerA) (S:ak N [x] (Yi st))
  (hY:∀ (w:ε) (h:Heap),YP w h->(K w.params).In h)
  (hrec:∀ p∈tabs,∃ d',(recsOf q).find? (fun e=>e.name==p.1)=some d')
  (htab:∀ (w:ε),∀ p∈tabs,PySem.W.tabIn (K w.params) p.1=some p.2)
  (hno:∀ (w:ε),∀ p∈tabs,(K w.params).lookup p.2.2=none)
  (F:∀ (w:ε) (mg:Str->Option Α) (h:Heap),(K w.params).In h->h.Ns ba mg->G9 (K w.params) mg st x d.name/\∀ base,Bm mg base->(∀ p∈tabs,eP base p.2.1 p.2.2)->Uh (Gx.mk l.prog w (K w.params) mg base) k N d.name st (V0 (K w.params) tabs)) :
  PySem.W.WalkO q loose XP YP l.row.toRowW d [] (fun f vs=>PySem.call f vs):=by
 refine Gq.lE hn hdf fun w s₀ s₁ mg mb fa o pm cd doc a vs ns G Y ho hd hcd hmg hobj hints hlen hg=>?_
 have KX:=hY w _ Y;obtain ⟨⟨f,fd,Fu,hb,hm⟩,B⟩:=F w mg _ KX G.T.g;have e:=hmg.symm.trans hm
 cases e
 refine YdA (CX:=bV) (sp:=V0 (K w.params) tabs) tabs KX G.T.g G.T.b G.T.builtins G.T.nolimit hg hobj hints (ah hlen (by decide)) hk (fun p hp=>?_) (hno w) G.T.bmain
  (fun base _ _ hB hC=>Fu.ok S (fun vs H Q E h=>by obtain ⟨a,ns,rfl,_⟩:=h;rfl) fun cdv A outer s H vs Q E hr h=>B base hB hC fa cdv A outer s H vs Q E hr h) hb (fun H hT hS=>⟨a,ns,rfl,hS,hlen,hT,fun _=>rfl⟩) fun H e s' z=>z
 obtain ⟨d',hd'⟩:=hrec p hp;exact PySem.W.tab_of G.T KX hd' (htab w p hp)
def QZ (s:Stmt) (j:Nat):Stmt:=(YS s).getD j (.Pass ⟨0,0,0,0⟩)
def Gx.dD (g:Gx) (x qual:Str) (st:Stmt) (ps:List Str) (c:Addr):Prop:=∃ f fd,dU g.K x qual st f fd/\Xq g.K fd ps []/\g.mg x=some (.ref f)/\fd.code = .ref c
theorem Gx.dD.Ie {g:Gx} {k:Nat} {x qual:Str} {st:Stmt} {N ps:List Str} {c:Addr} {sp:Sp} (R:g.dD x qual st ps c) (S:ak N ps (Yi st)) (len:∀ vs H Q E,sp vs H Q E->vs.length=ps.length)
  (b:∀ (f:Addr) (A:τ) (outer:List Env) (s:Δ) (H:Hp) (vs:List V) (Q:VK) (E:XK),aM k (g.cx N qual st f (.ref c) A outer s H E).A->sp vs H Q E ->
   ∃ t,PR (g.cx N qual st f (.ref c) A outer s H E) (YS st) t/\t (fun σ v H'=>∃ l,XH (g.cx N qual st f (.ref c) A outer s H E) σ l/\((∀ c∈l.as,H' c=none)->Q v (lay H' l))) (Xz N vs) H):g.Fn (k+1) x ps sp:=by
 obtain ⟨f,fd,F,bd,hm,hc⟩:=R;refine ⟨f,fd,F.okC S len fun cdv A outer s H vs Q E e hr h=>?_,bd,F.kp,hm⟩;have e':cdv = .ref c:=e.symm.trans hc;subst e';exact b f A outer s H vs Q E hr h
theorem Qf {K:Κ} {h:Heap} {mg:Str->Option Α} {f:Addr} {x:Str} {st:Stmt} {c:Addr} {oc kV dc pm cd ct:Α} {od an:Option Addr} {sl:Array (Option Α)} (X:K.In h) (G:h.Ns ba mg) (ps:List Str)
  (a:i8 K ba x=some (some (.ref f))) (l:K.lookup f=some ⟨oc,od,.func (c5 x x (Y4 st) (YS st) (Yi st) .none kV dc pm an cd ct),sl⟩) (cc:gf K cd x=true) (k:ef K (.ref f)=true) (e:cd = .ref c)
  (b:∀ (kV doc pm:Α) (an:Option Addr) (cdv ct:Α) (us:List Α),us.length=ps.length->fo (c5 x x (Y4 st) (YS st) (Yi st) .none kV doc pm an cdv ct) ⟨us,[]⟩=pure (ps.zip us)) :
  ∀ P w base,(Gx.mk P w K mg base).dD x x st ps c:=fun P w base =>
 have F:=Vd (st:=st) l cc k
 ⟨f,_,F,F.binds b,iO X G a,e⟩
end L2
namespace HT
open PySem PySem.Spec PyProof.Rows
variable {prog:Ο} {w:ε} {A:τ} {E:Α->Δ->Prop} {s:Δ}
end HT
namespace L2
open PySem PySem.Spec PyProof.Rows
def Nx (s:Stmt):Expr:=match s with
 | .Return (some e) _=>e
 | _ => .Constant .none 0 ⟨0,0,0,0⟩
def Ig (e:Expr):Arguments:=match e with
 | .Lambda a _ _ _=>a
 | _=>{ posonlyargs:=[],args:=[],vararg:=none,kwonlyargs:=[],kw_defaults:=[],kwarg:=none,defaults:=[] }
def Ih (e:Expr):Expr:=match e with
 | .Lambda _ b _ _=>b
 | e=>e
def Vp (e:Expr):Scope:=match e with
 | .Lambda _ _ sc _=>sc
 | _=>{ kind := .function,names:=[],isGenerator:=false,isCoroutine:=false }
theorem YgT {P:Ο} {w:ε} {K:Κ} {mg:Str->Option Α} {base:Heap} {k:Nat} {f c:Addr} {qual:Str} {params:hV} {body:Expr} {scope:cw} {pm ctv:Α} {N ps:List Str} {l:Yz} {sp:List V->Hp->VK->Prop}
  (S:bY N ps (l.map (·.1)) scope) (hnd:l.as.Nodup) (len:∀ vs H Q,sp vs H Q->vs.length=ps.length)
  (hbody:∀ (A:τ) (outer:List Env) (s:Δ) (H:Hp) (vs:List V) (Q:VK),aM k (A.deeper (W.envX qual scope s.heap.objs.size f (.ref c) l.cl))->sp vs H Q ->
   ∃ t,PE (VI P w K mg base N qual scope f (.ref c) l.cl A outer s H) body t/\t (WK N vs l.vs) H Q) :
  aY P w K mg base bV (k+1) f (ix "<lambda>" qual params body scope l.cl pm (.ref c) ctv) ps
   (fun vs H Q _=>W8 H f c (ix "<lambda>" qual params body scope l.cl pm (.ref c) ctv) qual l/\sp vs (off H l.as) fun v H'=>(∀ c∈l.as,H' c=none)->Q v (on H' H l.as)):=by
 refine ⟨fun vs H Q E h=>len _ _ _ h.2,fun A outer s H args us vs Q E hr e0 hb r hsp=>?_⟩;obtain ⟨⟨hf,hc,hin⟩,hsp⟩:=hsp;have hl:=len _ _ _ hsp;have lim:s.heap.NoLimit:=e0.mod.nolimit.keeps fun b o e=>(e0.bs b o e).1
 have hfo:=(e0.hok _ _ hf).1;have hco:s.heap.CodeRec (.ref c) qual:=(e0.hok _ _ hc).1;refine W.kla_callFunE hr.depth hfo rfl S.co S.gen rfl hco (hb _ _ _ _ ?_);refine eS S.gG (fun y hy=>S.par y.1 (dP hy).1) (fun h₁ hns hsb=>?_) S.kind;have hk₁:∀ b o,s.heap.get? b=some o->h₁.get? b=some o:=fun b o e=>hsb.extBut b o (υ (Ρ e)) (Η _ e)
 refine ⟨lim.keeps hk₁,W.kla_codeExpr ?_⟩;obtain ⟨t,ht,hq⟩:=hbody A outer s (off H l.as) vs _ (hr.deeper _) hsp;have I:=UH (cd := .ref c) (qual:=qual) (f:=f) (tk:=s.toks+(ps.zip us).length) S hnd hr.hd e0 hl r hin hns hk₁;have lk:=VH (l:=l) (by rw [<- S.suf];exact S.nd.sublist (gi _ _));refine bo (ht [] _ _ _ _ I hq) (fun u s' hs=>?_) fun e s' hs=>hs.elim
 obtain ⟨v,H',J,rv,q⟩:=hs;exact xq e0 hin J lk rv q
section
variable {src:List (Option Nat)} {te:TE} {σ:St} {H:Hp} {Q:VK}
theorem YdB {K:Κ} {tl:TE} {xs:List V} {b:Addr} (I:Addr->Nat->List V->Hp->Prop) (ha:∀ R:V->Hp->Prop,R (.ref b) H->tl σ H R) (hS:ao K H b xs) (hlen:xs.length<=100000)
  (i0:∀ D,H D=none->I D 0 [] (upd H D (.lst []))) (dl:∀ D i zs H',H D=none->I D i zs H'->zs.length=i/\H' D=some (.lst zs)/\ao K H' b xs)
  (step:∀ D (i:Nat) x zs H',H D=none->xs[i]?=some x->I D i zs H'->∀ R:VK,(∀ y aF,aF D=some (.lst zs)->I D (i+1) (zs++[y]) (upd aF D (.lst (zs++[y])))->R y aF)->te (some x::YF src σ) H' R)
  (fin:∀ D zs H',H D=none->I D xs.length zs H'->Q (.ref D) H'):dj (none::src) (XM K tl) (YE 0) XI te σ H Q:=by
 refine ha _ ⟨b,rfl,⟨xs,hS⟩,fun D hD=>?_⟩;have h6:100000<sizeLine:=by decide
 refine VU XD (fun i zs σ' H'=>(∃ o,σ'=o::YF src σ)/\i<=xs.length/\I D i zs H') ⟨⟨none,rfl⟩,az _,i0 D hD⟩ (fun i zs σ' H' q=>⟨(dl _ _ _ _ hD q.2.2).2.2,(dl _ _ _ _ hD q.2.2).2.1⟩) (XN 0) ?_ ?_
 ·rintro i zs σ' H' x hx ⟨⟨o,rfl⟩,_,hI⟩
  have hi:i<xs.length:=(Ι.mp hx).1;have hl:=(dl _ _ _ _ hD hI).1
  show te (some x::YF src σ) H' _
  exact step D i x zs H' hD hx hI _ fun y aF hd hI'=>⟨hd,by omega,⟨_,rfl⟩,hi,hI'⟩
 ·rintro zs σ' H' ⟨_,_,hI⟩
  exact fin D zs H' hD hI
end
mutual
inductive RK (h:Heap):Α->Β->Prop
 | int (i:Int) (t:Tok):RK h (.int i t) (.int i)
 | str (x:Str) (t:Tok) (hx:fE x=true):RK h (.str x t) (.str x)
 | tup {a:Addr} {o:Obj} {vs:Array Α} {n:Nat} {ds:List Β}:h.get? a=some o->o.cls = .type "tuple"->o.data = .seq vs n->cQ h vs.toList ds->RK h (.ref a) (.tuple ds)
inductive cQ (h:Heap):List Α->List Β->Prop
 | nil:cQ h [] []
 | cons {v:Α} {d:Β} {vs:List Α} {ds:List Β}:RK h v d->cQ h vs ds->cQ h (v::vs) (d::ds)
end
mutual
inductive KO:Β->Prop
 | int (i:Int):KO (.int i)
 | str (x:Str):KO (.str x)
 | tup {ds:List Β}:fM ds->KO (.tuple ds)
inductive fM:List Β->Prop
 | nil:fM []
 | cons {d:Β} {ds:List Β}:KO d->fM ds->fM (d::ds)
end
mutual
theorem RK.ko {h:Heap}:∀ {v:Α} {d:Β},RK h v d->KO d
 | _,_,.int i t => .int i
 | _,_,.str x t _ => .str x
 | _,_,.tup _ _ _ hs => .tup hs.ko
theorem cQ.ko {h:Heap}:∀ {vs:List Α} {ds:List Β},cQ h vs ds->fM ds
 | _,_,.nil => .nil
 | _,_,.cons a b => .cons a.ko b.ko
end
mutual
theorem RK.reads {h:Heap}:∀ {v:Α} {d:Β},RK h v d->(∃ as,Reads h v d as)/\d.canLay0=true
 | _,_,.int i t=>⟨⟨_,.int i t⟩,rfl⟩
 | _,_,.str x t hx=>⟨⟨_,.str x t⟩,by simpa [eg] using hx⟩
 | _,_,.tup h1 h2 h3 hs=>by
  obtain ⟨⟨as,r⟩,l⟩:=hs.reads;exact ⟨⟨_,.tuple h1 h2 h3 r⟩,by rw [eg];exact l⟩
theorem cQ.reads {h:Heap}:∀ {vs:List Α} {ds:List Β},cQ h vs ds->(∃ as,ReadsAll h vs ds as)/\d5 ds=true
 | _,_,.nil=>⟨⟨_,.nil⟩,rfl⟩
 | _,_,.cons a b=>by
  obtain ⟨⟨as,r⟩,l⟩:=a.reads;obtain ⟨⟨bs,r'⟩,l'⟩:=b.reads;exact ⟨⟨_,.cons r r'⟩,by rw [d5,l,l'];rfl⟩
end
theorem RK.of {h:Heap} {d:Β} {v:Α} {as:List Addr} (k:KO d) (r:Reads h v d as) (l:d.canLay0=true):RK h v d:=by
 induction k using KO.rec (motive_2:=fun ds _=>∀ {vs:List Α} {as:List Addr},ReadsAll h vs ds as->d5 ds=true->cQ h vs ds) generalizing v as with
 | int i=>cases r with | int _ t=>exact .int i t
 | str x=>cases r with | str _ t=>exact .str x t (by simpa [eg] using l)
 | tup _ ih=>cases r with | tuple h1 h2 h3 hs=>exact .tup h1 h2 h3 (ih hs (by rw [eg] at l;exact l))
 | nil=>rename_i r l;cases r;exact .nil
 | cons _ _ ih ihs =>
  rename_i r l;rw [d5,dm] at l
  cases r with | cons r rs=>exact .cons (ih r l.1) (ihs rs l.2)
theorem RK.inj {h:Heap} {d:Β} {v:Α} {e:Β} (a:RK h v d) (b:RK h v e):d=e:=by
 obtain ⟨⟨_,r⟩,l⟩:=a.reads;obtain ⟨⟨_,r'⟩,_⟩:=b.reads;exact (r.unique _ _ r').1
mutual
theorem RK.keeps {h h':Heap} {x:Addr} {o:Obj} {es:Array DictEntry} {ep:Nat} (ho:h.get? x=some o) (hd:o.data = .dict es ep) (hs:cp x h h'):∀ {v:Α} {d:Β},RK h v d->RK h' v d
 | _,_,.int i t => .int i t
 | _,_,.str y t hy => .str y t hy
 | _,_,.tup (a:=a) h1 h2 h3 ks=>by
  have hne:a≠x:=by
   rintro rfl;rw [ho] at h1
   cases h1
   rw [hd] at h3
   exact nomatch h3
  exact .tup ((hs.2 a hne).trans h1) h2 h3 (cQ.keeps ho hd hs ks)
theorem cQ.keeps {h h':Heap} {x:Addr} {o:Obj} {es:Array DictEntry} {ep:Nat} (ho:h.get? x=some o) (hd:o.data = .dict es ep) (hs:cp x h h'):∀ {vs:List Α} {ds:List Β},cQ h vs ds->cQ h' vs ds
 | _,_,.nil => .nil
 | _,_,.cons a b => .cons (RK.keeps ho hd hs a) (cQ.keeps ho hd hs b)
end
noncomputable instance afL:DecidableEq PyData:=fun a b=>Classical.propDecidable (a=b)
mutual
theorem KO.eqv:∀ {d e:Β},KO d->KO e->d.eqv e=decide (d=e)
 | .int a,.int b,_,_=>by
  by_cases h:a=b
  ·subst h;simp [db]
  ·simp [db,h]
 | .str a,.str b,_,_=>by
  by_cases h:a=b
  ·subst h;simp [db]
  ·simp [db,h]
 | .int a,.str b,_,_=>by simp [db]
 | .str a,.int b,_,_=>by simp [db]
 | .int a,.tuple b,_,_=>by simp [db]
 | .str a,.tuple b,_,_=>by simp [db]
 | .tuple a,.int b,_,_=>by simp [db]
 | .tuple a,.str b,_,_=>by simp [db]
 | .tuple a,.tuple b,.tup x,.tup y=>by
  rw [db,fM.eqv x y];by_cases h:a=b
  ·subst h;simp
  ·simp [h]
theorem fM.eqv:∀ {ds es:List Β},fM ds->fM es->gv ds es=decide (ds=es)
 | [],[],_,_=>by simp [gv]
 | [],_::_,_,_=>by simp [gv]
 | _::_,[],_,_=>by simp [gv]
 | d::ds,e::es,.cons x xs,.cons y ys=>by
  rw [gv,KO.eqv x y,fM.eqv xs ys];by_cases h:d=e
  ·subst h
   by_cases h2:ds=es
   ·subst h2;simp
   ·simp [h2]
  ·simp [h]
end
section
variable {P:Ο} {w:ε}
mutual
def kh (P:Ο) (w:ε):Β->Int
 | .int i=>(Y3 P w).hash (.inl i)
 | .str x=>(Y3 P w).hash (.inr x)
 | .tuple ds=>reduceHash (ck (dG P w ds))
 | _=>0
def dG (P:Ο) (w:ε):List Β->List Int
 | []=>[]
 | d::ds=>kh P w d::dG P w ds
end
mutual
def kdr:Β->Nat
 | .int _=>1
 | .str _=>1
 | .tuple ds=>Wk ds+1
 | _=>0
def Wk:List Β->Nat
 | []=>0
 | d::ds=>kdr d+Wk ds
end
theorem Yge (a b:List Β):dG P w (a++b)=dG P w a++dG P w b:=by
 induction a with
 | nil=>simp [dG]
 | cons x a ih=>simp [dG,ih]
theorem YeB (a b:List Β):Wk (a++b)=Wk a+Wk b:=by
 induction a with
 | nil=>simp [Wk]
 | cons x a ih=>simp [Wk,ih,iP]
theorem YeC (a b:List Β):χ (a++b)=max (χ a) (χ b):=by
 induction a with
 | nil=>simp [χ]
 | cons x a ih=>simp [χ,ih,Nat.max_assoc]
theorem UI {s:Δ} {a:Addr} {o:Obj} (h1:s.heap.get? a=some o) (h2:o.cls = .type "tuple"):s.TypeIs (.ref a) "tuple":=⟨o,h1,h2⟩
theorem Ii:∀ (n:Nat) {A:τ} {E:Α->Δ->Prop} {s:Δ} {v:Α} {d:Β} {Q:Int->Δ->Prop},RK s.heap v d->d.depth<=n->A.units+n<cLine->Q (kh P w d) { s with toks:=s.toks+kdr d }->Ξ (γ P w) A (pyHash v) Q E s
 | n,A,E,s,_,_,Q,.int i t,_,_,h=>(Y3 P w).pyHash (Uy (k := .inl i) (show YA (.int i) (.int i t) from ⟨t,rfl⟩)) (by simpa [kh,kdr] using h)
 | n,A,E,s,_,_,Q,.str x t _,_,_,h=>(Y3 P w).pyHash (Uy (k := .inr x) (show YA (.str x) (.str x t) from ⟨t,rfl⟩)) (by simpa [kh,kdr] using h)
 | 0,A,E,s,_,_,Q,.tup _ _ _ _,hd,_,h=>by simp [aE] at hd
 | n+1,A,E,s,_,_,Q,.tup (a:=a) (ds:=ds) h1 h2 h3 ks,hd,hu,h=>by
  have hT:=UI h1 h2;unfold pyHash
  first | unfold pyHashByItsType | skip
  first | refine Θ (wpAny_cRoomFor_or (.inr (by omega)) ?_) | skip
  refine Θ (ez hT F.slot_tuple_hash.lookup ?_)
  show Ξ _ _ (if (some (Value.builtin "tuple.__hash__")==some bE)=true then _ else _) Q E s
  rw [if_neg (by rw [beq_builtin_none];exact ζ)];refine Θ (ez hT F.slot_tuple_hash.lookup ?_);refine Θ (wpAny_callSpecialIfBoundUnlessNone?_slot hT F.slot_tuple_hash (c8 F.slot_tuple_hash hT F.entry_tuple_hash ?_ (F.args_tuple_hash_1 _)))
  show Ξ _ _ (Builtin.Tuple.tupleItemsOf (.ref a) >>= _) _ _ s
  refine Θ (wpAny_tupleItemsOf h1 h3 ?_);refine Θ ?_;rw [<- Array.forIn_toList];have hdd:χ ds<=n:=by simp only [aE] at hd;omega
  refine wpAny_forIn_list _ (fun Xd (b:Array Int) s'=>∃ done left,ds=done++left/\cQ s.heap Xd left/\b.toList=dG P w done/\s'={ s with toks:=s.toks+Wk done }) _ ?_ ?_ _ _ ⟨[],ds,rfl,ks,by simp [dG],by simp [Wk]⟩
  ·rintro x Xd b s' ⟨done,left,e,hl,hb,rfl⟩
   cases hl with
   | @cons _ d _ ds' hk hl' =>
    have hdk:d.depth<=n:=by
     rw [e,YeC] at hdd
     simp only [χ] at hdd;omega
    have hin:A.in1.units+n<cLine:=by
     have:A.in1.units=A.units+1:=rfl;omega
    refine Θ (Ii n (s:={ s with toks:=s.toks+Wk done }) hk hdk hin ?_);have fin:∃ mV left',ds=mV++left'/\cQ s.heap Xd left'/\(b.push (kh P w d)).toList=dG P w mV/\({ s with toks:=s.toks+Wk done+kdr d }:Δ)={ s with toks:=s.toks+Wk mV } :=
     ⟨done++[d],ds',by rw [e];simp,hl',by rw [Yge,Array.toList_push,hb];simp [dG],by rw [YeB];simp [Wk,iP]⟩
    first
     | exact Ψ fin
     | exact Θ (Ψ (Ψ fin))
  ·rintro b s' ⟨done,left,e,hl,hb,rfl⟩
   cases hl
   rw [ay] at e
   subst e
   show Ξ _ _ (retInt (ck b.toList)) _ _ _
   rw [hb];refine wpAny_ret_mkInt ?_;simp only [kh,kdr] at h;unfold reduceHash at h
   show Ξ _ _ (if (decide (-(2:Int)^63<=ck (dG P w ds))&&decide (ck (dG P w ds)<2^63))=true then _ else _) Q E _
   by_cases hr:(decide (-(2:Int)^63<=ck (dG P w ds))&&decide (ck (dG P w ds)<2^63))=true
   ·rw [if_pos hr]
    rw [if_pos hr] at h
    exact Ψ (by simpa [iP] using h)
   ·rw [if_neg hr]
    rw [if_neg hr] at h
    exact Θ (iX (Ψ (by simpa [iP] using h)))
theorem Ij:∀ (n:Nat) {A:τ} {E:Α->Δ->Prop} {s:Δ} {v:Α} {d:Β} {Q:Bool->Δ->Prop},RK s.heap v d->d.depth<=n->Q true s->Ξ (γ P w) A (eqIsQuiet n v) Q E s
 | n,A,E,s,_,_,Q,.int i t,_,h=>by rw [eqIsQuiet_byValue _ (by rfl)];exact Ψ h
 | n,A,E,s,_,_,Q,.str x t _,_,h=>by rw [eqIsQuiet_byValue _ (by rfl)];exact Ψ h
 | 0,A,E,s,_,_,Q,.tup _ _ _ _,hd,h=>by simp [aE] at hd
 | n+1,A,E,s,_,_,Q,.tup (a:=a) (ds:=ds) h1 h2 h3 ks,hd,h=>by
  have hT:=UI h1 h2;have hdd:χ ds<=n:=by simp only [aE] at hd;omega
  unfold eqIsQuiet;refine Θ (ez hT F.slot_tuple_eq.lookup ?_);refine Θ (wpAny_isInstance hT isSubtype_tuple_tuple ?_);simp only [Bool.not_true,cq,if_false];refine Θ (eL h1 h3 ?_);refine Θ ?_;rw [Option.getD_some,<- Array.forIn_toList];refine wpAny_forIn_list _ (fun Xd r s'=>r.1=none/\s'=s/\∃ left,cQ s.heap Xd left/\χ left<=n) _ ?_ ?_ _ _ ⟨rfl,rfl,ds,ks,hdd⟩
  ·rintro v Xd r s' ⟨hr,rfl,left,hl,hdl⟩
   cases hl with
   | @cons _ d _ ds' hk hl' =>
    simp only [χ] at hdl;refine Θ (Ij n hk (by omega) ?_);simp only [Bool.not_true,cq,if_false];exact Ψ ⟨rfl,rfl,ds',hl',by omega⟩
  ·rintro ⟨r1,r2⟩ s' ⟨hr,rfl,_⟩
   simp only at hr;subst hr;exact Ψ h
noncomputable def d7 (P:Ο) (w:ε):HeapKind P w Β where
 is:=fun h d a=>RK h (.ref a) d/\d.depth<=8
 hash:=kh P w
 draws:=kdr
 room:=fun A=>A.units+8<cLine
 inj:=fun hx hy=>hx.1.inj hy.1
 keeps:=fun x ho hd hs=>⟨x.1.keeps ho hd hs,x.2⟩
 pyHash:=fun hu hk h=>Ii 8 hk.1 hk.2 hu h
 eqBool:=fun {A E s x y a b Q} hu hx hy h=>by
  obtain ⟨⟨as,r1⟩,l1⟩:=hx.1.reads;obtain ⟨⟨bs,r2⟩,l2⟩:=hy.1.reads;have hm:min x.depth y.depth<=8:=ah (Nat.min_le_left _ _) hx.2;exact SeqAt.eqAt_reads x y A s _ _ _ _ r1 r2 l1 l2 (by omega) P w E Q (by rw [KO.eqv hx.1.ko hy.1.ko];exact h)
 quiet:=fun hk h=>Ij 8 hk.1 hk.2 h
end
abbrev Dx:=List (Β×Addr×Addr)
def We (x:Β×Addr×Addr):Β×Addr×Value:=(x.1,x.2.1,.ref x.2.2)
noncomputable def dH (P:Ο) (w:ε) (a:Addr) (xs:Dx):HO := .ext fun h=>(a==dq)=false/\∃ o es ep,h.get? a=some o/\o.ExactDict/\o.data = .dict es ep/\es.toList=(xs.map We).map (entryOfKey (d7 P w))
theorem Ik {P:Ο} {w:ε} {H:Hp} {h:Heap} {a:Addr} {xs:Dx} (hd:(a==dq)=false) (e:∃ o es ep,h.get? a=some o/\o.ExactDict/\o.data = .dict es ep/\es.toList=(xs.map We).map (entryOfKey (d7 P w))):YN P w H h a (dH P w a xs):=by
 refine ⟨⟨hd,e⟩,?_,fun h1 h2 p k=>?_⟩
 ·obtain ⟨o,es,ep,h1,_⟩:=e
  exact ⟨o,h1⟩
 ·obtain ⟨q,o,es,ep,g1,g2⟩:=p
  exact ⟨q,o,es,ep,k _ g1,g2⟩
structure DK (K:Κ) (H:Hp) (b:Addr) (d:Β):Prop where
 den:Den K H (.ref b) d
 ko:KO d
 dp:d.depth<=8
theorem DK.keep {K:Κ} {H H':Hp} {b:Addr} {d:Β} (h:DK K H b d) (s:Ye H H'):DK K H' b d:=⟨h.den.keep s,h.ko,h.dp⟩
noncomputable def bw (xs:Dx) (d:Β):Option Addr:=(xs.find? fun x=>decide (x.1=d)).map (·.2.2)
structure bL (P:Ο) (w:ε) (K:Κ) (H:Hp) (a:Addr) (xs:Dx):Prop where
 at_:H a=some (dH P w a xs)
 nd:(xs.map (·.1)).Nodup
 len:xs.length<=1000
 keys:∀ x∈xs,DK K H x.2.1 x.1
section
variable {X:Cx} {pins:List (Addr×Obj)} {σ:St} {H:Hp} {s:Δ} {a b:Addr} {d:Β} {xs:Dx} {u r:Α} {A:τ} {E:Α->Δ->Prop}
theorem Q0 (I:Inv X pins σ H s) (h:DK X.K H b d):(d7 X.prog X.w).is s.heap d b:=by
 obtain ⟨as,r⟩:=h.den.reads I (show YA (.ref b) (.ref b) from rfl);exact ⟨RK.of h.ko r h.den.lay,h.dp⟩
theorem Q1 (I:Inv X pins σ H s) (h:bL X.prog X.w X.K H a xs):(a==dq)=false/\s.heap.DictOfH (d7 X.prog X.w) a (xs.map We):=by
 obtain ⟨⟨hd,o,es,ep,h1,h2,h3,h4⟩,_⟩:=(show YN X.prog X.w H s.heap a (dH X.prog X.w a xs) from I.hok a _ h.at_);refine ⟨hd,o,es,ep,h1,h2,h3,h4,fun x hx=>?_,?_⟩
 ·obtain ⟨y,hy,rfl⟩:=aw.mp hx
  exact Q0 I (h.keys y hy)
 ·have:(xs.map We).map (·.1)=xs.map (·.1):=by rw [dA];rfl
  rw [this];exact h.nd
theorem W9 (xs:Dx) (d:Β):(atKey (xs.map We) d).map (·.2)=(bw xs d).map Α.ref:=by
 induction xs with
 | nil=>rfl
 | cons x xs ih =>
  by_cases h:x.1=d
  ·simp [atKey,bw,bn,We,h]
  ·simp only [atKey,bw,af,bn,We,h] at ih ⊢
   simpa using ih
theorem Ycs {p:Addr} {Q:Α->Δ->Prop} (hu:A.units+9<cLine) (I:Inv X pins σ H s) (g:bL X.prog X.w X.K H a xs) (k:DK X.K H b d) (l:bw xs d=some p) (h:∀ s',Inv X pins σ H s'->Q (.ref p) s') :
  Ξ (γ X.prog X.w) A (fT (.ref a) (.ref b)) Q E s:=by
 obtain ⟨hd,dd⟩:=Q1 I g;have e:=W9 xs d;rw [l] at e
 obtain ⟨q,hq,hq2⟩:=ο.mp e;refine wpAny_getItem_heap (show A.in1.units+8<cLine from by have:A.in1.units=A.units+1:=rfl;omega) (Q0 I k) dd hq ?_;rw [hq2];exact h _ (I.tok _)
theorem YeD {Q:Α->Δ->Prop} (hu:A.units+9<cLine) (I:Inv X pins σ H s) (g:bL X.prog X.w X.K H a xs) (k:DK X.K H b d) (h:∀ s',Inv X pins σ H s'->Q (.bool (!(bw xs d).isSome)) s') :
  Ξ (γ X.prog X.w) A (bt .NotIn (.ref b) (.ref a)) Q E s:=by
 obtain ⟨hd,dd⟩:=Q1 I g;refine wpAny_notIn_heap (show A.in1.units+8<cLine from by have:A.in1.units=A.units+1:=rfl;omega) (Q0 I k) hd dd ?_;have e:=congrArg Option.isSome (W9 xs d);rw [Option.isSome_map,Option.isSome_map] at e
 rw [e];exact h _ (I.tok _)
theorem Yct {p:Addr} {Q:Unit->Δ->Prop} (hu:A.units+9<cLine) (I:Inv X pins σ H s) (g:bL X.prog X.w X.K H a xs) (k:DK X.K H b d) (l:bw xs d=none) (hl:xs.length<1000) (h:∀ s',Inv X pins σ (upd H a (dH X.prog X.w a (xs++[(d,b,p)]))) s'->Q () s') :
  Ξ (γ X.prog X.w) A (setItem (.ref a) (.ref b) (.ref p)) Q E s:=by
 obtain ⟨hd,dd⟩:=Q1 I g;have hz:(xs.map We).length<=sizeLine:=by rw [Ε];exact ah (eK hl) (by decide)
 refine wpAny_setItem_heap (hsz:=hz) (show A.in1.units+8<cLine from by have:A.in1.units=A.units+1:=rfl;omega) (Q0 I k) dd fun h' oK hs=>h _ ?_
 have e:atKey (xs.map We) d=none:=by
  have e:=W9 xs d;rw [l] at e
  cases q:atKey (xs.map We) d with
  | none=>rfl
  | some z=>rw [q] at e;cases e
 rw [storedH_new e] at oK
 obtain ⟨q,es,ep,hq,h2,h3,h4,_,h5⟩:=oK;refine Gz I (by rw [g.at_];exact da) hs ⟨q,hq⟩ (Ik hd ⟨q,es,ep,hq,h2,h3,?_⟩);rw [h4,ξ (f:=We)];rfl
end
def xK (P:Ο) (w:ε) (K:Κ) (td ty:TE):TE:=fun σ H Q=>td σ H fun x H1=>ty σ H1 fun y H2=>∃ a b xs d p,x = .ref a/\y = .ref b/\bL P w K H2 a xs/\DK K H2 b d/\bw xs d=some p/\Q (.ref p) H2
def Il (P:Ο) (w:ε) (K:Κ) (td ty tv:TE):TS:=fun D σ H=>tv σ H fun v H1=>td σ H1 fun x H2=>ty σ H2 fun y H3=>∃ a b xs d p,v = .ref p/\x = .ref a/\y = .ref b/\bL P w K H3 a xs/\DK K H3 b d/\bw xs d=none/\xs.length<1000/\D.nx σ (upd H3 a (dH P w a (xs++[(d,b,p)])))
def YgU (P:Ο) (w:ε):TE:=fun _ H Q=>∀ p,H p=none->Q (.ref p) (upd H p (dH P w p []))
section
variable {X:Cx} {o i e value:Expr} {pos pos' tpos:Pos} {td ty tv:TE} {k:Nat}
theorem xM {A:τ} {k:Nat} (hr:aM k A):A.units+9<cLine:=Nat.lt_of_le_of_lt (Nat.add_le_add_left (by decide:9<=64) _) hr.units
theorem YeE (hr:aM k X.A) (ho:PE X o td) (hi:PE X i ty) (hs:qR i):PE X (.Subscript o i pos) (xK X.prog X.w X.K td ty):=by
 intro pins s σ H Q I h;refine GC F.slot_dict_getitem.lookup hs (aG (ho pins s σ H _ I h) fun u s1 ⟨x,H1,I1,rx,q1⟩=>aG (hi pins s1 σ H1 _ I1 q1) fun iv s2 ⟨y,H2,I2,ry,a,b,xs,d,p,ex,ey,g,kk,l,q2⟩=>?_);subst ex ey;obtain rfl:u=ac a:=rx;obtain rfl:iv=ac b:=ry;exact ⟨(Q1 I2 g).2.typeIs,Ycs (xM hr) I2 g kk l fun s3 I3=>⟨.ref p,H2,I3,rfl,q2⟩⟩
theorem YeF (hr:aM k X.A) (ho:PE X o td) (hi:PE X i ty) (hv:PE X value tv) (hs:swapsWith value (some (.Subscript o i pos')) pos.line X.env=pure false) :
  PS X (.Assign [.Subscript o i pos'] value pos) (Il X.prog X.w X.K td ty tv):=by
 intro pins s σ H D I h;refine wpAny_Assign_Subscript (aG (hv pins s σ H _ I h) fun r s1 ⟨v,H1,I1,rv,q1⟩=>aG (ho pins s1 σ H1 _ I1 q1) fun u s2 ⟨x,H2,I2,rx,q2⟩=>aG (hi pins s2 σ H2 _ I2 q2) fun iv s3 ⟨y,H3,I3,ry,a,b,xs,d,p,ev,ex,ey,g,kk,l,hl,q3⟩=>?_) hs;subst ex ey ev;obtain rfl:u=ac a:=rx;obtain rfl:iv=ac b:=ry;obtain rfl:r=ac p:=rv;exact Yct (xM hr) I3 g kk l hl fun s4 I4=>⟨σ,_,I4,q3⟩
theorem YeG:PE X (.Dict [] [] pos) (YgU X.prog X.w):=fun pins s σ H Q I h =>
 wpAny_Dict_empty ⟨.ref s.heap.objs.size,_,I.laid (a:=s.heap.objs.size) (o:=dH X.prog X.w s.heap.objs.size []) (t':=s.toks) (fun _ _ q=>Η _ q) (Μ _) (Ik (beq_eq_false_iff_ne.mpr (ω (υ I.big))) ⟨_,#[],0,Ω _ rfl,⟨rfl,rfl,rfl⟩,rfl,rfl⟩),rfl,h _ (I.hok.fresh (Μ _))⟩
end
def VJ (H H':Hp):Prop:=∀ b xs,Rd H b (.tup xs)->Rd H' b (.tup xs)
theorem VJ.sq {K:Κ} {H H':Hp} (t:VJ H H') {b:Addr} {xs:List V} (h:aq K H b xs):aq K H' b xs:=by
 rcases h with h | h
 ·exact .inl (t _ _ h)
 ·exact .inr h
theorem Ygf {H H':Hp} (s:Ye H H'):VJ H H':=fun b xs h=>by
 rcases h with h | ⟨o,h⟩
 ·exact .inl (s _ _ h)
 ·exact .inr ⟨o,s _ _ h⟩
theorem YeH {H H':Hp} {P:Addr} {u:HO} (hk:∀ b o,b≠P->H b=some o->H' b=some o) (hP:H P=some u) (h1:∀ xs,u ≠ .tup xs) (h2:∀ o v,u ≠ .bF o v):VJ H H':=fun b xs h=>by
 rcases h with h | ⟨o,h⟩
 ·exact .inl (hk _ _ (YI h hP (fun z=>h1 _ z.symm)) h)
 ·exact .inr ⟨o,hk _ _ (YI h hP (fun z=>h2 _ _ z.symm)) h⟩
theorem YeI {K:Κ} {H H':Hp} (t:VJ H H') {d:Β} {v:V} (k:KO d) (r:Den K H v d):Den K H' v d:=by
 induction k using KO.rec (motive_2:=fun ds _=>∀ {vs:List V},cu K H vs ds->cu K H' vs ds) generalizing v with
 | int i=>cases r with | int _=>exact .int i
 | str x=>cases r with | str _ h=>exact .str x h
 | tup _ ih=>cases r with | tup h hs=>exact .tup (t.sq h) (ih hs)
 | nil=>rename_i r;cases r;exact .nil
 | cons _ _ ih ihs=>rename_i r;cases r with | cons a b=>exact .cons (ih a) (ihs b)
theorem DK.mW {K:Κ} {H H':Hp} {b:Addr} {d:Β} (h:DK K H b d) (t:VJ H H'):DK K H' b d:=⟨YeI t h.ko h.den,h.ko,h.dp⟩
theorem bL.keep {P:Ο} {w:ε} {K:Κ} {H H':Hp} {a:Addr} {xs:Dx} (h:bL P w K H a xs) (t:VJ H H') (e:H' a=some (dH P w a xs)):bL P w K H' a xs:=⟨e,h.nd,h.len,fun x hx=>(h.keys x hx).mW t⟩
theorem Ycu {xs:Dx} {d:Β} (h:bw xs d=none):d∉xs.map (·.1):=by
 intro hm;obtain ⟨x,hx,rfl⟩:=aw.mp hm;unfold bw at h;rw [Option.map_eq_none_iff,List.find?_eq_none] at h
 exact h x hx (by simp)
theorem Ycv (xs:Dx) (d e:Β) (b p:Addr) (h:bw xs d=none):bw (xs++[(d,b,p)]) e=if e=d then some p else bw xs e:=by
 unfold bw;rw [List.find?_append];by_cases c:e=d
 ·subst c
  have h':xs.find? (fun x=>decide (x.1=e))=none:=by
   unfold bw at h
   rwa [Option.map_eq_none_iff] at h
  rw [h',if_pos rfl];simp
 ·rw [if_neg c]
  have:([(d,b,p)]:Dx).find? (fun x=>decide (x.1=e))=none:=by simp [ω c]
  rw [this];simp
theorem bL.put {P:Ο} {w:ε} {K:Κ} {H:Hp} {a b p:Addr} {d:Β} {xs:Dx} (h:bL P w K H a xs) (k:DK K H b d) (l:bw xs d=none) (hl:xs.length<1000):bL P w K (upd H a (dH P w a (xs++[(d,b,p)]))) a (xs++[(d,b,p)]):=by
 have t:VJ H (upd H a (dH P w a (xs++[(d,b,p)]))):=YeH (fun b o hb e=>by rw [Yg hb];exact e) h.at_ (by intro xs z;cases z) (by intro o v z;cases z);refine ⟨Yb,?_,by rw [Ζ,δ];omega,fun x hx=>?_⟩
 ·rw [ξ]
  refine cz.mpr ⟨h.nd,by simp,fun x hx y hy e=>?_⟩;subst e;have:x=d:=by simpa using hy
  subst this;exact Ycu l hx
 ·rcases η.mp hx with hx | hx
  ·exact (h.keys x hx).mW t
  ·have:x=(d,b,p):=by simpa using hx
   subst this;exact k.mW t
theorem YdE {P:Ο} {w:ε} {K:Κ} {H:Hp} {a:Addr} (h:H a=some (dH P w a [])):bL P w K H a []:=⟨h,by simp,by simp,fun x hx=>by cases hx⟩
section
variable {X:Cx} {k:Nat}
theorem Ycw (hr:aM k X.A):bH X (bt .NotIn) (fun y x H Q=>∃ a b xs d,x = .ref a/\y = .ref b/\bL X.prog X.w X.K H a xs/\DK X.K H b d/\Q (.bl (!(bw xs d).isSome)) H):=by
 intro pins s σ H y x u v Q I ry rx h;obtain ⟨a,b,xs,d,rfl,rfl,g,kk,q⟩:=h
 cases (show u=ac b from ry)
 cases (show v=ac a from rx)
 exact YeD (xM hr) I g kk fun s' I'=>⟨.bl (!(bw xs d).isSome),H,I',rfl,q⟩
end
end L2
namespace PySem.W
open PySem PyProof.Rows
abbrev excFs (a0:Α):Array Value:=#[a0,.none,.none,.none,.bool false,.none]
end PySem.W
namespace L2
open PySem PySem.Spec PyProof.Rows
open PySem.W (excFs)
def del (H:Hp) (a:Addr):Hp:=fun b=>if b=a then none else H b
end L2
namespace L2
open PySem PySem.Spec PyProof.Rows
structure cO (H Hz:Hp) (h:Heap) (cs:List Addr):Prop where
 one:∀ b∈cs,∃ o u,Hz b=some (.bF o u)/\h.get? b=some o/\H b=none
 oth:∀ b,b∉cs->Hz b=H b
section
variable {P:Ο} {w:ε} {H Hz H':Hp} {h h' B:Heap} {cs fs:List Addr}
theorem cO.out (L:cO H Hz h cs) {b:Addr} {o:HO} (e:H b=some o):b∉cs:=fun z=>by
 obtain ⟨_,_,_,_,n⟩:=L.one b z;rw [n] at e
 cases e
theorem cO.get (L:cO H Hz h cs) {b:Addr} {o:HO} (e:H b=some o):Hz b=some o:=by rw [L.oth b (L.out e)];exact e
theorem Ul (x:aX P w H' h') (z:∀ b∈cs,∃ o u,H' b=some (.bF o u)):aX P w (off H' cs) h':=fun b o e=>by
 obtain ⟨e1,e2⟩:=VG e;refine (x b o e1).stay (fun _ _ _ q=>q) (fun c q=>?_) fun c xs q=>?_
 ·rw [YO fun hc=>by obtain ⟨_,_,y⟩:=z c hc;rw [y] at q;cases q]
  exact q
 ·rw [YO fun hc=>by obtain ⟨_,_,y⟩:=z c hc;rw [y] at q;cases q]
  exact q
theorem cO.un (L:cO H Hz h cs) (u:Un fs [] Hz H' h h') (hok:aX P w H' h') (nf:∀ b∈cs,b∉fs):Un fs [] H (off H' cs) h h':=by
 have z:∀ {b:Addr} {o:HO},H b=some o->b∉cs:=fun e=>L.out e
 refine ⟨fun b o e n hf hx=>?_,fun b o e n hf hx=>?_,fun b o e n hx=>?_,u.there,fun b xs e=>?_,fun b o x e=>?_,fun b ps e=>?_⟩
 ·by_cases hb:b∈cs
  ·obtain ⟨o1,u1,y1,y2,_⟩:=L.one b hb
   rw [e] at y2
   cases y2
   exact (hok b _ (u.bI b _ _ y1)).1
  ·exact u.keep b o e ((L.oth b hb).trans n) hf hx
 ·exact u.slot b o e ((L.oth b fun hb=>nf b hb hf).trans n) hf hx
 ·by_cases hb:b∈cs
  ·exact Vh hb
  ·rw [YO hb]
   exact u.free b o e ((L.oth b hb).trans n) hx
 ·rw [YO (z e)]
  exact u.tups b xs (L.get e)
 ·rw [YO (z e)]
  exact u.bI b o x (L.get e)
 ·rw [YO (z e)]
  exact u.bU b ps (L.get e)
theorem cO.behind (L:cO H Hz h cs) (u:Un fs [] Hz H' h h'):∀ b∈cs,∃ o v,H' b=some (.bF o v):=fun b hb=>by
 obtain ⟨o1,u1,y1,_⟩:=L.one b hb;exact ⟨o1,u1,u.bI b _ _ y1⟩
theorem cO.fly {l:List Env} {e:Addr} {cls:Α} (L:cO H Hz h cs) (F:mq P w l Hz h e cls H' h' B) (nf:∀ b∈cs,b∉frs l):mq P w l H h e cls (off H' cs) h' B:=by
 have z:∀ {b:Addr} {o:HO},H b=some o->b∉cs:=fun e=>L.out e
 have bh:∀ b∈cs,∃ o v,H' b=some (.bF o v):=fun b hb=>by
  obtain ⟨o1,u1,y1,_⟩:=L.one b hb;exact ⟨o1,u1,F.bI b _ _ y1⟩
 refine ⟨F.fl,Ul F.hok bh,fun b o q n hf=>?_,fun b o q n hf=>F.slot b o q ((L.oth b fun hb=>nf b hb hf).trans n) hf,F.al,fun b o q n=>?_,fun b xs q=>?_,fun b o x q=>?_,fun b ps q=>?_⟩
 ·by_cases hb:b∈cs
  ·obtain ⟨o1,u1,y1,y2,_⟩:=L.one b hb
   rw [q] at y2
   cases y2
   exact (F.hok b _ (F.bI b _ _ y1)).1
  ·exact F.keep b o q ((L.oth b hb).trans n) hf
 ·by_cases hb:b∈cs
  ·exact Vh hb
  ·rw [YO hb]
   exact F.free b o q ((L.oth b hb).trans n)
 ·rw [YO (z q)]
  exact F.tups b xs (L.get q)
 ·rw [YO (z q)]
  exact F.bI b o x (L.get q)
 ·rw [YO (z q)]
  exact F.bU b ps (L.get q)
end
def WT (H Hz:Hp) (l:Yz):Prop:=(∀ p∈l,∃ o,Hz p.2.1=some (.bF o (Wz p.2.1 p.2.2))/\H p.2.1=none)/\∀ b,b∉l.as->Hz b=H b
def Wl (H:Hp) (h:Heap):Yz->Hp
 | []=>H
 | p::l=>match h.get? p.2.1 with
  | some o=>upd (Wl H h l) p.2.1 (.bF o (Wz p.2.1 p.2.2))
  | none=>Wl H h l
section
variable {X:Cx} {pins:List (Addr×Obj)} {σ:St} {H:Hp} {s:Δ}
theorem WL {h:Heap} {b:Addr}:∀ {l:Yz},b∉l.as->Wl H h l b=H b
 | [],_=>rfl
 | p::l,hb=>by
  have h1:b≠p.2.1:=fun z=>hb (by rw [z];exact .head _)
  have h2:b∉Yz.as l:=fun z=>hb (.tail _ z)
  cases e:h.get? p.2.1 with
  | some o =>
   have hz:Wl H h (p::l)=upd (Wl H h l) p.2.1 (.bF o (Wz p.2.1 p.2.2)):=by
    show (match h.get? p.2.1 with | some o=>_ | none=>_)=_
    rw [e]
   rw [hz,Yg h1];exact WL h2
  | none =>
   have hz:Wl H h (p::l)=Wl H h l:=by
    show (match h.get? p.2.1 with | some o=>_ | none=>_)=_
    rw [e]
   rw [hz];exact WL h2
theorem Im (I:Inv X pins σ H s) {l:Yz} (hc:XH X σ l) {p:Str×Addr×V} (hp:p∈l):H p.2.1=none/\∃ o u,s.heap.get? p.2.1=some o/\YA p.2.2 u/\s.heap.IsCell p.2.1 (some u):=by
 obtain ⟨i,h1,h2,h3,h4⟩:=hc.2 p hp;obtain ⟨m,hn,hl⟩:=I.loc;obtain ⟨u,r,lk⟩:=hl i p.1 p.2.2 h1 h2 (.inr (.inl h3));rcases lk with ⟨k,_⟩ | ⟨_,c,hc,hcell⟩
 ·rw [h3] at k;cases k
 ·rw [h4] at hc
  cases hc
  obtain ⟨o,e1,e2⟩:=id hcell;exact ⟨I.aZ p.1 p.2.1 h4,o,u,e1,r,hcell⟩
theorem Io (I:Inv X pins σ H s):∀ {l:Yz},XH X σ l->WT H (Wl H s.heap l) l/\cO H (Wl H s.heap l) s.heap l.as/\aX X.prog X.w (Wl H s.heap l) s.heap
 | [],_=>⟨⟨(fun p hp=>nomatch hp),fun _ _=>rfl⟩,⟨(fun b hb=>nomatch hb),fun _ _=>rfl⟩,I.hok⟩
 | p::l,h=>by
  have nd':=aS.mp h.1;obtain ⟨⟨a1,a2⟩,⟨b1,b2⟩,ok⟩:=Io I (l:=l) ⟨nd'.2,fun q hq=>h.2 q (.tail _ hq)⟩;obtain ⟨n,o,u,e,r,hcell⟩:=Im I h (.head _);have hz:Wl H s.heap (p::l)=upd (Wl H s.heap l) p.2.1 (.bF o (Wz p.2.1 p.2.2)):=by
   show (match s.heap.get? p.2.1 with | some o=>_ | none=>_)=_
   rw [e]
  have hne:∀ q∈l,q.2.1≠p.2.1:=fun q hq z=>nd'.1 (by
   have:q.2.1∈Yz.as l:=cS (f:=fun p:Str×Addr×V=>p.2.1) hq;rw [z] at this
   exact this)
  rw [hz];refine ⟨⟨fun q hq=>?_,fun b hb=>?_⟩,⟨fun b hb=>?_,fun b hb=>?_⟩,ok.track ((WL nd'.1).trans n) ⟨e,Uk r hcell⟩⟩
  ·rcases Υ.mp hq with rfl | hq
   ·exact ⟨o,Yb,n⟩
   ·obtain ⟨o',y1,y2⟩:=a1 q hq
    exact ⟨o',by rw [Yg (hne q hq)];exact y1,y2⟩
  ·rw [Yg fun z=>hb (by rw [z];exact .head _)]
   exact a2 b fun z=>hb (.tail _ z)
  ·by_cases z:b=p.2.1
   ·subst z
    exact ⟨o,_,Yb,e,n⟩
   ·rw [Yg z]
    have:b∈Yz.as l:=by
     rcases Υ.mp (show b∈p.2.1::Yz.as l from hb) with y | y
     ·exact absurd y z
     ·exact y
    exact b1 b this
  ·rw [Yg fun z=>hb (by rw [z];exact .head _)]
   exact b2 b fun z=>hb (.tail _ z)
theorem Ip (I:Inv X pins σ H s) {l:Yz} (hc:XH X σ l) (hfn:∀ x,X.fn x=true) {b:Addr} (hb:b∈l.as):X.s₀.heap.objs.size<=b/\b≠X.env.locals:=by
 obtain ⟨p,hp,rfl⟩:=Xa hb;obtain ⟨i,h1,h2,h3,h4⟩:=hc.2 p hp;exact ⟨I.ok.cab _ _ (hfn _) h4,I.iG _ _ h4⟩
theorem Ygg (I:Inv X pins σ H s) (hs:X.stack=X.env::X.outer) (hf:X.env.frame=some X.env.locals) {l:Yz} (hc:XH X σ l) (hfn:∀ x,X.fn x=true):∀ b∈l.as,b∉frs X.stack:=fun b hb z=>by
 obtain ⟨n1,n2⟩:=Ip I hc hfn hb;rw [hs] at z
 unfold frs at z;rw [ci,hf] at z
 rcases Υ.mp z with z | z
 ·exact n2 z
 ·obtain ⟨_,o,e,_⟩:=I.ok.cj.mem z
  exact absurd (ρ (Ρ e) n1) (de _)
end
section
variable {X:Cx} {CX:dh} {k:Nat} {f:Addr} {fd:bg} {ps:List Str} {sp:Sp} {E:XK} {pins:List (Addr×Obj)} {σ:St} {H:Hp} {s:Δ} {Q:VK} {us:List Α} {vs:List V} {l:Yz}
theorem YeJ (F:aY X.prog X.w X.K X.mg X.base CX k f fd ps sp) (hr:aM k X.A) (hb:Xq X.K fd ps []) (hs:X.stack=X.env::X.outer) (hf:X.env.frame=some X.env.locals) (hfn:∀ x,X.fn x=true)
  (hx:∀ Hz e s',cO H Hz s.heap l.as->(∀ b∈l.as,b∉frs X.stack)->CX X.stack Hz s (fun c d H'=>E c d (off H' l.as)) e s'->X.xe e s')
  (I:Inv X pins σ H s) (hc:XH X σ l) (r:Yw vs us) (h:∀ Hz,WT H Hz l->sp vs Hz (fun v H'=>Q v (off H' l.as)) fun c d H'=>E c d (off H' l.as)):Ξ (γ X.prog X.w) X.A (call (.ref f) us) (EP X pins σ Q) X.xe s:=by
 obtain ⟨L1,L2,ok⟩:=Io I hc;have nf:=Ygg I hs hf hc hfn;have hsp:=h _ L1;have hl:us.length=ps.length:=by rw [<- r.length];exact F.len _ _ _ _ hsp
 have e0:cV X.prog X.w X.K X.mg X.base X.A X.stack s (Wl H s.heap l):=by
  have e:=I.env0;refine ⟨e.frames,e.mod,fun b o q=>⟨(e.bs b o q).1,?_⟩,e.eE,e.cj,fun b q=>?_,ok,e.bare⟩
  ·rw [WL fun z=>?_]
   ·exact (e.bs b o q).2
   ·have n1:=(Ip I hc hfn z).1
    have:=I.ok.eE;exact absurd (ρ (Ρ q) (ah this n1)) (de _)
  ·rw [WL fun z=>nf b z q]
   exact e.eG b q
 refine wpAny_call (fA (F.run X.A X.stack s _ ⟨us,[]⟩ us vs _ _ hr e0 (by have:=hb s us I.bJ (by rw [ay];exact hl);rwa [ay] at this) r hsp) fun r s' hq=>?_)
 cases r with
 | error e=>exact hx _ e s' L2 nf hq
 | ok fl =>
  cases fl with
  | ret u =>
   obtain ⟨v,H',os,bare,un,hok,rv,q⟩:=hq;exact I.after ⟨v,off H' l.as,os,bare,L2.un un hok nf,Ul hok (L2.behind un),rv,q⟩
  | next=>exact bi hq
  | brk=>exact bi hq
  | cont=>exact bi hq
end
theorem Ycx {g:Gx} {N:List Str} {qual:Str} {st:Stmt} {f:Addr} {cdv:Α} {A:τ} {outer:List Env} {s0:Δ} {H0:Hp} {E:XK} {pins:List (Addr×Obj)} {σ:St} {H:Hp} {s:Δ} {cs:List Addr}
  (I:Inv (g.cL N qual st f cdv A outer s0 H0 E) pins σ H s):∀ Hz e s',cO H Hz s.heap cs->(∀ b∈cs,b∉frs (g.cL N qual st f cdv A outer s0 H0 E).stack)->jF g.P g.w (g.cL N qual st f cdv A outer s0 H0 E).stack Hz s (fun c d H'=>E c d (off H' cs)) e s'->(g.cL N qual st f cdv A outer s0 H0 E).xe e s':=by
 rintro Hz e s' L nf ⟨a,cls,H',B,dc,rfl,os,bare,F,hd,q⟩;exact Eh pins σ H s _ s' I ⟨a,cls,off H' cs,B,dc,rfl,os,bare,L.fly F nf,hd,q⟩
def Yz.Z (l:Yz) (H:Hp):Prop:=∀ p∈l,∃ o,H p.2.1=some (.bF o (Wz p.2.1 p.2.2))
theorem WT.z {H Hz:Hp} {l:Yz} (h:WT H Hz l):l.Z Hz:=fun p hp=>by
 obtain ⟨o,z,_⟩:=h.1 p hp;exact ⟨o,z⟩
theorem Yz.Z.keep {l:Yz} {H H':Hp} (h:l.Z H) (s:Ye H H'):l.Z H':=fun p hp=>by
 obtain ⟨o,z⟩:=h p hp;exact ⟨o,s _ _ z⟩
def Ir (H:Hp) (f c:Addr) (fd:bg) (qual:Str) (l:Yz):Prop:=H f=some (bK f fd)/\H c=some (cX c qual)/\l.Z H
section
variable {P:Ο} {w:ε} {K:Κ} {mg:Str->Option Α} {base:Heap} {N ps:List Str} {qual:Str} {scope:cw} {f c:Addr} {A:τ} {outer:List Env} {s:Δ} {H:Hp} {l:Yz} {cd:Α}
theorem YgV {Q:VK} {v:V} {u:Α} {σ':St} {H':Hp} {s':Δ} (e0:cV P w K mg base A outer s H) (hin:l.Z H) (J:Inv (VI P w K mg base N qual scope f cd l.cl A outer s (off H l.as)) [] σ' H' s') (hlk:∀ p∈l,l.cl.lookup p.1=some p.2.1) (rv:YA v u) (q:(∀ c∈l.as,H' c=none)->Q v (on H' H l.as)) :
  CE outer P w H s Q u s':=by
 have un:=J.base;have zc:∀ {b:Addr},b∈l.as->∃ o u,H b=some (.bF o u):=fun hm=>by
  obtain ⟨p,hp,rfl⟩:=Xa hm;obtain ⟨o,z⟩:=hin p hp;exact ⟨o,_,z⟩
 have nin:∀ {b:Addr},H b=none->b∉l.as:=fun hb hm=>by
  obtain ⟨o,u,z⟩:=zc hm;rw [z] at hb;cases hb
 have out:∀ {b:Addr} {o:HO},H b=some o->(∀ x u,o ≠ .bF x u)->b∉l.as:=fun hb no hm=>by
  obtain ⟨o,u,z⟩:=zc hm;rw [z] at hb
  exact no _ _ (Λ hb).symm
 have aZ:∀ c∈l.as,H' c=none:=fun c hc=>by
  obtain ⟨p,hp,rfl⟩:=Xa hc;exact J.aZ p.1 p.2.1 (hlk p hp)
 refine ⟨v,on H' H l.as,J.os,J.bare,⟨fun b o e n hb hx=>un.keep b o e (XE n) hb hx,fun b o e n hb hx=>un.slot b o e (XE n) hb hx,fun b o e n hx=>?_,fun b o e hx=>un.there b o e hx,fun b xs e=>?_,fun b o u e=>?_,fun b ps e=>?_⟩,fun b o e=>?_,rv,q aZ⟩
 ·rw [Y2 (nin n)]
  exact un.free b o e (XE n) hx
 ·have h1:=out e fun _ _ z=>by cases z
  rw [Y2 h1];exact un.tups b xs ((YO h1).trans e)
 ·by_cases hb:b∈l.as
  ·rw [VZ hb];exact e
  ·rw [Y2 hb]
   exact un.bI b o u ((YO hb).trans e)
 ·have h1:=out e fun _ _ z=>by cases z
  rw [Y2 h1];exact un.bU b ps ((YO h1).trans e)
 ·by_cases hb:b∈l.as
  ·rw [VZ hb] at e
   obtain ⟨p,hp,rfl⟩:=Xa hb;obtain ⟨ob,z⟩:=hin p hp;rw [z] at e
   cases e
   obtain ⟨ho,y1,y2,y3⟩:=e0.hok _ _ z;have hk:=un.keep _ _ ho (Vh hb) (fun hf=>by have:=e0.eG _ hf;rw [z] at this;cases this) (by intro z;exact absurd (show p.2.1∈([]:List Addr) from z) (by simp));exact ⟨hk,y3 _ _ y1 fun o q=>by rw [ho] at q;cases q;exact hk,⟨ob,hk⟩,y3⟩
  ·rw [Y2 hb] at e
   refine (J.hok b o e).stay (fun _ _ _ q=>q) (fun c q=>?_) fun c xs q=>?_
   ·rw [Y2 fun hc=>?_]
    ·exact q
    ·rw [aZ c hc] at q;cases q
   ·rw [Y2 fun hc=>?_]
    ·exact q
    ·rw [aZ c hc] at q;cases q
end
theorem Ygh {P:Ο} {w:ε} {K:Κ} {mg:Str->Option Α} {base:Heap} {k:Nat} {f c:Addr} {qual:Str} {params:hV} {body:Expr} {scope:cw} {pm ctv:Α} {N ps:List Str} {l:Yz} {sp:List V->Hp->VK->Prop}
  (S:bY N ps (l.map (·.1)) scope) (hnd:l.as.Nodup) (len:∀ vs H Q,sp vs H Q->vs.length=ps.length)
  (hbody:∀ (A:τ) (outer:List Env) (s:Δ) (H:Hp) (vs:List V) (Q:VK),aM k (A.deeper (W.envX qual scope s.heap.objs.size f (.ref c) l.cl))->sp vs H Q ->
   ∃ t,PE (VI P w K mg base N qual scope f (.ref c) l.cl A outer s H) body t/\t (WK N vs l.vs) H Q) :
  aY P w K mg base bV (k+1) f (ix "<lambda>" qual params body scope l.cl pm (.ref c) ctv) ps
   (fun vs H Q _=>Ir H f c (ix "<lambda>" qual params body scope l.cl pm (.ref c) ctv) qual l/\sp vs (off H l.as) fun v H'=>(∀ c∈l.as,H' c=none)->Q v (on H' H l.as)):=by
 refine ⟨fun vs H Q E h=>len _ _ _ h.2,fun A outer s H args us vs Q E hr e0 hb r hsp=>?_⟩;obtain ⟨⟨hf,hc,hin⟩,hsp⟩:=hsp;have hl:=len _ _ _ hsp;have lim:s.heap.NoLimit:=e0.mod.nolimit.keeps fun b o e=>(e0.bs b o e).1
 have hfo:=(e0.hok _ _ hf).1;have hco:s.heap.CodeRec (.ref c) qual:=(e0.hok _ _ hc).1;refine W.kla_callFunE hr.depth hfo rfl S.co S.gen rfl hco (hb _ _ _ _ ?_);refine eS S.gG (fun y hy=>S.par y.1 (dP hy).1) (fun h₁ hns hsb=>?_) S.kind;have hk₁:∀ b o,s.heap.get? b=some o->h₁.get? b=some o:=fun b o e=>hsb.extBut b o (υ (Ρ e)) (Η _ e)
 refine ⟨lim.keeps hk₁,W.kla_codeExpr ?_⟩;obtain ⟨t,ht,hq⟩:=hbody A outer s (off H l.as) vs _ (hr.deeper _) hsp;have zc:∀ b∈l.as,∃ o u,H b=some (.bF o u):=fun b hm=>by
  obtain ⟨p,hp,rfl⟩:=Xa hm;obtain ⟨o,z⟩:=hin p hp;exact ⟨o,_,z⟩
 have I:=UG (cd := .ref c) (qual:=qual) (f:=f) (tk:=s.toks+(ps.zip us).length) S hnd hr.hd e0 hl r (fun p hp=>by
  obtain ⟨o,z⟩:=hin p hp;exact (e0.hok _ _ z).2.1) (Ul e0.hok zc) hns hk₁
 have lk:=VH (l:=l) (by rw [<- S.suf];exact S.nd.sublist (gi _ _));refine bo (ht [] _ _ _ _ I hq) (fun u s' hs=>?_) fun e s' hs=>hs.elim
 obtain ⟨v,H',J,rv,q⟩:=hs;exact YgV e0 hin J lk rv q
def Iu (X:Cx) (sp:Sp) (E:XK) (t:TA):TE:=fun σ H Q=>t σ H fun vs H1=>∃ l,XH X σ l/\((∀ c∈l.as,H1 c=none)->∀ Hz,WT H1 Hz l->sp vs Hz (fun v H'=>Q v (off H' l.as)) fun c d H'=>E c d (off H' l.as))
theorem YeK {g:Gx} {N:List Str} {qual:Str} {st:Stmt} {f:Addr} {cdv:Α} {A:τ} {outer:List Env} {s0:Δ} {H0:Hp} {E:XK} {j k:Nat} {x:Str} {ps:List Str} {sp:Sp} {e:Expr} {es:List Expr} {t:TA} {p pos:Pos} (F:g.gq j x ps sp) (hr:aM k (g.cL N qual st f cdv A outer s0 H0 E).A) (ha:PA (g.cL N qual st f cdv A outer s0 H0 E) (e::es) t) (hj:j<=k) (hg:Gl (g.cL N qual st f cdv A outer s0 H0 E) x) (hdb:(x==("__debug__":Str))=false)
  (he:Φ (e::es) (g.cL N qual st f cdv A outer s0 H0 E).env=(false,eval e (g.cL N qual st f cdv A outer s0 H0 E).env)::Φ es (g.cL N qual st f cdv A outer s0 H0 E).env) (hpl:(bv pos (Φ es (g.cL N qual st f cdv A outer s0 H0 E).env)).any (·.1)=false) :
  PE (g.cL N qual st f cdv A outer s0 H0 E) (.Call (.Name x p) (e::es) [] pos) (Iu (g.cL N qual st f cdv A outer s0 H0 E) sp E t):=by
 obtain ⟨f',fd,F,b,kp,hm⟩:=F;intro pins s σ H Q I h;refine bz (VP I hg hm ?_ hdb);refine eB (h₀:=(g.cL N qual st f cdv A outer s0 H0 E).base) I.ok.mod.iD kp (aG (ha pos pins s σ H _ I h) fun us s1 ⟨vs,H1,I1,r,l,hc,q⟩=>⟨I1.bJ,?_⟩) he hpl;exact YeJ F (hr.mono hj) b rfl rfl (fun _=>rfl) (Ycx I1) I1 hc r (q fun c hcc=>by
  obtain ⟨p,hp,rfl⟩:=Xa hcc;exact (Im I1 hc hp).1)
theorem Gx.dD.fnX {g:Gx} {k:Nat} {x qual:Str} {st:Stmt} {N ps:List Str} {c:Addr} {sp:Sp} (R:g.dD x qual st ps c) (S:ak N ps (Yi st)) (len:∀ vs H Q E,sp vs H Q E->vs.length=ps.length)
  (b:∀ (f:Addr) (A:τ) (outer:List Env) (s:Δ) (H:Hp) (vs:List V) (Q:VK) (E:XK),aM k (g.cL N qual st f (.ref c) A outer s H E).A->sp vs H Q E ->
   ∃ t,cW (g.cL N qual st f (.ref c) A outer s H E) (YS st) t/\t { nx:=fun _ H'=>Q .non H',rt:=Q } (Xz N vs) H):g.gq (k+1) x ps sp:=by
 obtain ⟨f,fd,F,bd,hm,hc⟩:=R;refine ⟨f,fd,?_,bd,F.kp,hm⟩;obtain ⟨oc,od,kV,doc,pm,an,cdv,ct,osl,rfl,lk,hcd⟩:=F.ex;have hc':cdv = .ref c:=hc;subst hc';exact Gg lk hcd S len fun A outer s H vs Q E hr h=>b f A outer s H vs Q E hr h
end L2
namespace L2
open PySem
mutual
inductive DL (H:Hp):V->Β->List Addr->Prop
 | non:DL H .non .none []
 | bl (b:Bool):DL H (.bl b) (.bool b) []
 | int (i:Int):DL H (.int i) (.int i) []
 | str (x:Str) (h:fE x=true):DL H (.str x) (.str x) []
 | lst {a:Addr} {vs:List V} {ds:List Β} {L:List Addr}:H a=some (.lst vs)->vs.length<=10000->aW H vs ds L->DL H (.ref a) (.list ds) (a::L)
 | tup {a:Addr} {vs:List V} {ds:List Β} {L:List Addr}:H a=some (.tup vs)->vs.length<=10000->aW H vs ds L->DL H (.ref a) (.tuple ds) L
inductive aW (H:Hp):List V->List Β->List Addr->Prop
 | nil:aW H [] [] []
 | cons {v:V} {d:Β} {L:List Addr} {vs:List V} {ds:List Β} {L':List Addr}:DL H v d L->aW H vs ds L'->aW H (v::vs) (d::ds) (L++L')
end
mutual
theorem DL.bO {H H':Hp} (t:jG H H'):∀ {v:V} {d:Β} {L:List Addr},DL H v d L->(∀ a∈L,∀ vs,H a=some (.lst vs)->H' a=some (.lst vs))->DL H' v d L
 | _,_,_,.non,_ => .non
 | _,_,_,.bl b,_ => .bl b
 | _,_,_,.int i,_ => .int i
 | _,_,_,.str x h,_ => .str x h
 | _,_,_,.lst h hn hs,e => .lst (e _ (.head _) _ h) hn (hs.bO t fun a ha=>e a (.tail _ ha))
 | _,_,_,.tup h hn hs,e => .tup (t _ _ h) hn (hs.bO t e)
theorem aW.bO {H H':Hp} (t:jG H H'):∀ {vs:List V} {ds:List Β} {L:List Addr},aW H vs ds L->(∀ a∈L,∀ vs,H a=some (.lst vs)->H' a=some (.lst vs))->aW H' vs ds L
 | _,_,_,.nil,_ => .nil
 | _,_,_,.cons h hs,e => .cons (h.bO t fun a ha=>e a (e8 _ ha)) (hs.bO t fun a ha=>e a (ap _ ha))
end
theorem DL.keep {H H':Hp} {v:V} {d:Β} {L:List Addr} (h:DL H v d L) (s:Ye H H'):DL H' v d L:=h.bO s.tps fun a _ vs e=>s _ _ e
theorem aW.keep {H H':Hp} {vs:List V} {ds:List Β} {L:List Addr} (h:aW H vs ds L) (s:Ye H H'):aW H' vs ds L:=h.bO s.tps fun a _ vs e=>s _ _ e
mutual
theorem DL.mem {H:Hp}:∀ {v:V} {d:Β} {L:List Addr},DL H v d L->∀ a∈L,∃ vs,H a=some (.lst vs)/\vs.length<=10000
 | _,_,_,.lst (a:=b) h hn hs,a,ha=>by
  rcases Υ.mp ha with e | ha
  ·subst e;exact ⟨_,h,hn⟩
  ·exact hs.mem a ha
 | _,_,_,.tup h hn hs,a,ha=>hs.mem a ha
theorem aW.mem {H:Hp}:∀ {vs:List V} {ds:List Β} {L:List Addr},aW H vs ds L->∀ a∈L,∃ vs,H a=some (.lst vs)/\vs.length<=10000
 | _,_,_,.cons h hs,a,ha=>by
  rcases η.mp ha with ha | ha
  ·exact h.mem a ha
  ·exact hs.mem a ha
end
mutual
theorem DL.den {K:Κ} {H:Hp}:∀ {v:V} {d:Β} {L:List Addr},DL H v d L->Den K H v d
 | _,_,_,.non => .non
 | _,_,_,.bl b => .bl b
 | _,_,_,.int i => .int i
 | _,_,_,.str x h => .str x h
 | _,_,_,.lst h _ hs => .lst (ao.of h) hs.den
 | _,_,_,.tup h _ hs => .tup (aq.of h) hs.den
theorem aW.den {K:Κ} {H:Hp}:∀ {vs:List V} {ds:List Β} {L:List Addr},aW H vs ds L->cu K H vs ds
 | _,_,_,.nil => .nil
 | _,_,_,.cons h hs => .cons h.den hs.den
end
theorem aW.length {H:Hp}:∀ {vs:List V} {ds:List Β} {L:List Addr},aW H vs ds L->vs.length=ds.length
 | _,_,_,.nil=>rfl
 | _,_,_,.cons _ hs=>congrArg (·+1) hs.length
theorem aW.at {H:Hp}:∀ {vs:List V} {ds:List Β} {L:List Addr} {i:Nat} {v:V},aW H vs ds L->vs[i]?=some v->∃ d L',ds[i]?=some d/\DL H v d L'
 | _,_,_,0,v,.cons a _,h=>by
  have:_=v:=Λ h;subst this;exact ⟨_,_,rfl,a⟩
 | _,_,_,i+1,v,.cons _ b,h=>b.at (i:=i) h
theorem aW.append {H:Hp} {vs':List V} {ds':List Β} {L':List Addr}:∀ {vs:List V} {ds:List Β} {L:List Addr},aW H vs ds L->aW H vs' ds' L'->aW H (vs++vs') (ds++ds') (L++L')
 | _,_,_,.nil,h=>h
 | _,_,_,.cons a b,h=>by rw [ca];exact .cons a (b.append h)
theorem DL.one {H:Hp} {v:V} {d:Β} {L:List Addr} (h:DL H v d L):aW H [v] [d] L:=by
 have:=aW.cons h .nil
 rwa [ay] at this
theorem aW.take {H:Hp}:∀ {vs:List V} {ds:List Β} {L:List Addr} (n:Nat),aW H vs ds L->∃ L',aW H (vs.take n) (ds.take n) L'/\∀ a∈L',a∈L
 | _,_,_,0,_=>by simp;exact ⟨[],.nil,fun a h=>by cases h⟩
 | _,_,_,n+1,.nil=>by simp;exact ⟨[],.nil,fun a h=>by cases h⟩
 | _,_,_,n+1,.cons a b=>by
  obtain ⟨L',h1,h2⟩:=b.take n;exact ⟨_,.cons a h1,fun x hx=>by
   rcases η.mp hx with h | h
   ·exact e8 _ h
   ·exact ap _ (h2 x h)⟩
theorem aW.drop {H:Hp}:∀ {vs:List V} {ds:List Β} {L:List Addr} (n:Nat),aW H vs ds L->∃ L',aW H (vs.drop n) (ds.drop n) L'/\∀ a∈L',a∈L
 | _,_,_,0,h=>⟨_,h,fun a h=>h⟩
 | _,_,_,n+1,.nil=>⟨[],by simp;exact .nil,fun a h=>by cases h⟩
 | _,_,_,n+1,.cons a b=>by
  obtain ⟨L',h1,h2⟩:=b.drop n;exact ⟨L',h1,fun x hx=>ap _ (h2 x hx)⟩
structure bQ (H0 H:Hp) (v:V) (d:Β) (L:List Addr):Prop where
 vl:DL H v d L
 nd:L.Nodup
 new:∀ a∈L,H0 a=none
structure bA (H0 H:Hp) (vs:List V) (ds:List Β) (L:List Addr):Prop where
 vl:aW H vs ds L
 nd:L.Nodup
 new:∀ a∈L,H0 a=none
theorem bA.put {H0 H1 H2:Hp} {vs:List V} {ds:List Β} {L L':List Addr} {y:V} {d:Β} {D:Addr} {zs zs':List V} (h:bA H0 H1 vs ds L) (hD:∀ a∈L,a≠D) (s0:Ye H0 H1) (s:Ye H1 H2) (o:bQ H1 H2 y d L') (h1:H1 D=some (.lst zs)):bA H0 (upd H2 D (.lst zs')) (vs++[y]) (ds++[d]) (L++L')/\∀ a∈L++L',a≠D:=by
 have hD':∀ a∈L',a≠D:=fun a ha e=>by have:=o.new a ha;rw [e,h1] at this;cases this
 have t:jG H2 (upd H2 D (.lst zs')) := .iy (s _ _ h1);refine ⟨⟨((h.vl.keep s).bO t fun a ha vs e=>by rw [Yg (hD a ha)];exact e).append ((o.vl.bO t fun a ha vs e=>by rw [Yg (hD' a ha)];exact e).one),?_,fun a ha=>?_⟩,fun a ha=>?_⟩
 ·refine cz.mpr ⟨h.nd,o.nd,fun a ha b hb e=>?_⟩
  subst e;obtain ⟨vs,e1,_⟩:=h.vl.mem a ha;rw [o.new a hb] at e1
  cases e1
 ·rcases η.mp ha with ha | ha
  ·exact h.new a ha
  ·exact s0.free (o.new a ha)
 ·rcases η.mp ha with ha | ha
  ·exact hD a ha
  ·exact hD' a ha
theorem bA.ext {H0 H1 H2:Hp} {vs:List V} {ds:List Β} {L L':List Addr} {ys:List V} {es:List Β} {D:Addr} {zs zs':List V} (h:bA H0 H1 vs ds L) (hD:∀ a∈L,a≠D) (s0:Ye H0 H1) (s:Ye H1 H2) (o:bA H1 H2 ys es L') (h1:H1 D=some (.lst zs)):bA H0 (upd H2 D (.lst zs')) (vs++ys) (ds++es) (L++L')/\∀ a∈L++L',a≠D:=by
 have hD':∀ a∈L',a≠D:=fun a ha e=>by have:=o.new a ha;rw [e,h1] at this;cases this
 have t:jG H2 (upd H2 D (.lst zs')) := .iy (s _ _ h1);refine ⟨⟨((h.vl.keep s).bO t fun a ha vs e=>by rw [Yg (hD a ha)];exact e).append (o.vl.bO t fun a ha vs e=>by rw [Yg (hD' a ha)];exact e),?_,fun a ha=>?_⟩,fun a ha=>?_⟩
 ·refine cz.mpr ⟨h.nd,o.nd,fun a ha b hb e=>?_⟩
  subst e;obtain ⟨vs,e1,_⟩:=h.vl.mem a ha;rw [o.new a hb] at e1
  cases e1
 ·rcases η.mp ha with ha | ha
  ·exact h.new a ha
  ·exact s0.free (o.new a ha)
 ·rcases η.mp ha with ha | ha
  ·exact hD a ha
  ·exact hD' a ha
theorem bQ.inv {H0 H:Hp} {D:Addr} {ds:List Β} {L:List Addr} (h:bQ H0 H (.ref D) (.list ds) L):∃ ys L1,L=D::L1/\H D=some (.lst ys)/\ys.length<=10000/\bA H0 H ys ds L1/\D∉L1/\H0 D=none:=by
 obtain ⟨vl,nd,new⟩:=h
 cases vl with
 | lst h1 h2 h3 =>
  have:=aS.mp nd;exact ⟨_,_,rfl,h1,h2,⟨h3,this.2,fun a ha=>new a (.tail _ ha)⟩,this.1,new _ (.head _)⟩
section
variable {src:List (Option Nat)} {te:TE} {σ:St} {H:Hp} {Q:VK}
theorem xO {J:It} {P:Hp->Prop} {xs:List V} (hJ:XC J P xs) {H1:Hp} {D:Addr} (ds:List Β) (hP:∀ H',Ye H1 H'->P H') (hD:H1 D=none) (hl:ds.length=xs.length) (hlen:xs.length<=10000)
  (step:∀ (i:Nat) x d H',xs[i]?=some x->ds[i]?=some d->Ye H1 H'->∀ R:VK,(∀ y aF L,Ye H' aF->bQ H' aF y d L->R y aF)->te (some x::YF src σ) H' R)
  (fin:∀ (ys:List V) H' L,Ye H1 H'->bQ H1 H' (.ref D) (.list ds) L->Q (.ref D) H'):LC (none::src) J (YE 0) XI te σ H1 Q D:=by
 have h6:100000<sizeLine:=by decide
 refine VU hJ (fun i zs σ' H'=>zs.length=i/\(∃ o,σ'=o::YF src σ)/\Ye H1 H'/\H' D=some (.lst zs)/\∃ L,bA H1 H' zs (ds.take i) L/\∀ a∈L,a≠D)
  ⟨rfl,⟨none,rfl⟩,.aj hD _,Yb,[],⟨by simp;exact .nil,.nil,fun a h=>by cases h⟩,fun a h=>by cases h⟩ (fun i zs σ' H' ⟨_,_,p1,p2,_⟩=>⟨hP _ p1,p2⟩) (XN 0) ?_ ?_
 ·rintro i zs σ' H' x hx ⟨hi',⟨o,rfl⟩,sm,hd,L,hL,hLD⟩
  have hi:=(Ι.mp hx).1;have hdi:ds[i]?=some (ds[i]'(by omega)):=Χ _
  show te (some x::YF src σ) H' _
  refine step i x _ H' hx hdi sm _ fun y aF L' s2 hy=>⟨s2 _ _ hd,by omega,by simp [hi'],⟨_,rfl⟩,.aP hD (sm.trans s2) _,Yb,L++L',?_⟩
  rw [Xb hdi];exact hL.put hLD sm s2 hy hd
 ·rintro zs σ' H' ⟨hn,_,sm,hd,L,hL,hLD⟩
  rw [<- hl,c9] at hL
  refine fin zs H' (D::L) sm ⟨.lst hd (by omega) hL.vl,aS.mpr ⟨fun h=>hLD _ h rfl,hL.nd⟩,fun a ha=>?_⟩;rcases Υ.mp ha with e | ha
  ·subst e;exact hD
  ·exact hL.new a ha
theorem Iv {K:Κ} {tl:TE} {xs:List V} {b:Addr} (ds:List Β) (ha:∀ R:V->Hp->Prop,R (.ref b) H->tl σ H R) (hS:ao K H b xs) (hl:ds.length=xs.length) (hlen:xs.length<=10000)
  (step:∀ (i:Nat) x d H',xs[i]?=some x->ds[i]?=some d->Ye H H'->∀ R:VK,(∀ y aF L,Ye H' aF->bQ H' aF y d L->R y aF)->te (some x::YF src σ) H' R)
  (fin:∀ D H' L,Ye H H'->bQ H H' (.ref D) (.list ds) L->Q (.ref D) H'):dj (none::src) (XM K tl) (YE 0) XI te σ H Q :=
 ha _ ⟨b,rfl,⟨xs,hS⟩,fun D hD=>xO (XD.imp fun H' (e:Ye H H')=>e.seq hS) ds (fun _ e=>e) hD hl hlen step fun _ H' L sm=>fin D H' L sm⟩
theorem Iw {K:Κ} {tl:TE} {xs:List V} {b:Addr} (ds:List Β) (ha:∀ R:V->Hp->Prop,R (.ref b) H->tl σ H R) (hS:aq K H b xs) (hl:ds.length=xs.length) (hlen:xs.length<=10000)
  (step:∀ (i:Nat) x d H',xs[i]?=some x->ds[i]?=some d->Ye H H'->∀ R:VK,(∀ y aF L,Ye H' aF->bQ H' aF y d L->R y aF)->te (some x::YF src σ) H' R)
  (fin:∀ D H' L,Ye H H'->bQ H H' (.ref D) (.list ds) L->Q (.ref D) H'):dj (none::src) (rO K tl) (YE 0) XI te σ H Q :=
 ha _ ⟨b,rfl,⟨xs,hS⟩,fun D hD=>xO (Sy.imp fun H' (e:Ye H H')=>e.tup hS) ds (fun _ e=>e) hD hl hlen step fun _ H' L sm=>fin D H' L sm⟩
end
def Iz:Β->String
 | .none=>"NoneType"
 | .bool _=>"bool"
 | .int _=>"int"
 | .str _=>"str"
 | .list _=>"list"
 | .tuple _=>"tuple"
 | .dict _=>"dict"
theorem xP {K:Κ} {H:Hp} {v:V} {d:Β} {L:List Addr} (h:DL H v d L):cC K H v (.type (Iz d)):=by
 cases h with
 | non=>exact .non
 | bl b=>exact .bl b
 | int i=>exact .int i
 | str x h=>exact .str _
 | lst h=>exact .lst h
 | tup h=>exact .tup h
theorem XL {H:Hp} {v:V} {d:Β} (h:DL H v d []):bQ H H v d []:=⟨h,.nil,fun a h=>by cases h⟩
theorem IK {H H':Hp} {ys:List V} {ds:List Β} {L:List Addr} {p:Addr} (h:bA H H' ys ds L) (hl:ys.length<=10000) (hp:H' p=none):bQ H (upd H' p (.tup ys)) (.ref p) (.tuple ds) L:=⟨.tup Yb hl (h.vl.keep (.aj hp _)),h.nd,h.new⟩
def Kt (H H':Hp):Prop:=∀ a o,(∀ ps,o ≠ .aN ps)->H a=some o->H' a=some o
theorem Kt.trans {H H1 H2:Hp} (a:Kt H H1) (b:Kt H1 H2):Kt H H2:=fun c o n e=>b c o n (a c o n e)
theorem WA {H H':Hp} (s:Ye H H'):Kt H H':=fun c o _ e=>s _ _ e
theorem Kt.lst {H H':Hp} (h:Kt H H') {a:Addr} {xs:List V} (e:H a=some (.lst xs)):H' a=some (.lst xs):=h a _ (by intro ps z;cases z) e
theorem Kt.tup {H H':Hp} (h:Kt H H') {a:Addr} {xs:List V} (e:H a=some (.tup xs)):H' a=some (.tup xs):=h a _ (by intro ps z;cases z) e
theorem DL.kt {H H':Hp} {v:V} {d:Β} {L:List Addr} (h:DL H v d L) (s:Kt H H'):DL H' v d L:=h.bO (fun a vs e=>s.tup e) fun a _ vs e=>s.lst e
theorem aW.kt {H H':Hp} {v:List V} {d:List Β} {L:List Addr} (h:aW H v d L) (s:Kt H H'):aW H' v d L:=h.bO (fun a vs e=>s.tup e) fun a _ vs e=>s.lst e
def DV (H:Hp) (v:V) (d:Β):Prop:=∃ L,DL H v d L
def aV (H:Hp) (vs:List V) (ds:List Β):Prop:=∃ L,aW H vs ds L
theorem DV.kt {H H':Hp} {v:V} {d:Β} (h:DV H v d) (s:Kt H H'):DV H' v d:=by obtain ⟨L,h⟩:=h;exact ⟨L,h.kt s⟩
theorem DV.keep {H H':Hp} {v:V} {d:Β} (h:DV H v d) (s:Ye H H'):DV H' v d:=h.kt (WA s)
theorem aV.kt {H H':Hp} {v:List V} {d:List Β} (h:aV H v d) (s:Kt H H'):aV H' v d:=by obtain ⟨L,h⟩:=h;exact ⟨L,h.kt s⟩
theorem aV.keep {H H':Hp} {v:List V} {d:List Β} (h:aV H v d) (s:Ye H H'):aV H' v d:=h.kt (WA s)
theorem aV.nil {H:Hp}:aV H [] []:=⟨[],.nil⟩
theorem aV.cons {H:Hp} {v:V} {d:Β} {vs:List V} {ds:List Β} (h:DV H v d) (hs:aV H vs ds):aV H (v::vs) (d::ds):=by
 obtain ⟨L,h⟩:=h;obtain ⟨L',hs⟩:=hs;exact ⟨_,.cons h hs⟩
theorem aV.inv {H:Hp} {v:V} {d:Β} {vs:List V} {ds:List Β} (h:aV H (v::vs) (d::ds)):DV H v d/\aV H vs ds:=by
 obtain ⟨L,h⟩:=h
 cases h with
 | cons a b=>exact ⟨⟨_,a⟩,⟨_,b⟩⟩
theorem aV.length {H:Hp} {vs:List V} {ds:List Β} (h:aV H vs ds):vs.length=ds.length:=by obtain ⟨L,h⟩:=h;exact h.length
theorem aV.at {H:Hp} {vs:List V} {ds:List Β} {i:Nat} {v:V} (h:aV H vs ds) (e:vs[i]?=some v):∃ d,ds[i]?=some d/\DV H v d:=by
 obtain ⟨L,h⟩:=h;obtain ⟨d,L',e1,e2⟩:=h.at e;exact ⟨d,e1,_,e2⟩
theorem aV.append {H:Hp} {vs vs':List V} {ds ds':List Β} (h:aV H vs ds) (h':aV H vs' ds'):aV H (vs++vs') (ds++ds'):=by
 obtain ⟨L,h⟩:=h;obtain ⟨L',h'⟩:=h';exact ⟨_,h.append h'⟩
theorem DV.lst {H:Hp} {a:Addr} {vs:List V} {ds:List Β} (h:H a=some (.lst vs)) (hn:vs.length<=10000) (hs:aV H vs ds):DV H (.ref a) (.list ds):=by obtain ⟨L,hs⟩:=hs;exact ⟨_,.lst h hn hs⟩
theorem DV.tup {H:Hp} {a:Addr} {vs:List V} {ds:List Β} (h:H a=some (.tup vs)) (hn:vs.length<=10000) (hs:aV H vs ds):DV H (.ref a) (.tuple ds):=by obtain ⟨L,hs⟩:=hs;exact ⟨_,.tup h hn hs⟩
theorem DV.bD {H:Hp} {v:V} {ds:List Β} (h:DV H v (.list ds)):∃ a vs,v = .ref a/\H a=some (.lst vs)/\vs.length<=10000/\aV H vs ds:=by
 obtain ⟨L,h⟩:=h
 cases h with
 | lst a b c=>exact ⟨_,_,rfl,a,b,_,c⟩
theorem DV.jJ {H:Hp} {v:V} {ds:List Β} (h:DV H v (.tuple ds)):∃ a vs,v = .ref a/\H a=some (.tup vs)/\vs.length<=10000/\aV H vs ds:=by
 obtain ⟨L,h⟩:=h
 cases h with
 | tup a b c=>exact ⟨_,_,rfl,a,b,_,c⟩
theorem DV.d8 {H:Hp} {v:V} {i:Int} (h:DV H v (.int i)):v = .int i:=by obtain ⟨L,h⟩:=h;cases h;rfl
theorem DV.IV {H:Hp} {v:V} {b:Bool} (h:DV H v (.bool b)):v = .bl b:=by obtain ⟨L,h⟩:=h;cases h;rfl
theorem DV.bM {H:Hp} {v:V} {x:Str} (h:DV H v (.str x)):v = .str x/\fE x=true:=by obtain ⟨L,h⟩:=h;cases h;exact ⟨rfl,‹_›⟩
theorem DV.ty {K:Κ} {H:Hp} {v:V} {d:Β} (h:DV H v d):cC K H v (.type (Iz d)):=by obtain ⟨L,h⟩:=h;exact xP h
theorem DV.den {K:Κ} {H:Hp} {v:V} {d:Β} (h:DV H v d):Den K H v d:=by obtain ⟨L,h⟩:=h;exact h.den
end L2
namespace HT
open PySem PySem.Spec PyProof.Rows
variable {prog:Ο} {w:ε} {A:τ} {E:Α->Δ->Prop} {s:Δ}
end HT
namespace L2
open PySem
noncomputable def sm (a b:Β):Bool:=@decide (a=b) (Classical.propDecidable _)
abbrev Say:=Except Str Β
def take (mk:Str) (s:Say) (f:Β->Option α):Except Str α:=match s with
 | .error m => .error m
 | .ok d=>match f d with
  | some a => .ok a
  | none => .error mk
structure IB (n:Nat) (i:Int):Prop where
 h:i.natAbs<2^(200*2^n)
mutual
def hb:Β->Prop
 | .list xs=>xs.length<=64/\hbs xs
 | .tuple xs=>xs.length<=64/\hbs xs
 | .str x=>x.length<=64
 | .int i=>IB 0 i
 | .none=>True
 | .bool _=>True
 | .dict _=>False
def hbs:List Β->Prop
 | []=>True
 | d::ds=>hb d/\hbs ds
end
theorem Xu {d:Β}:∀ {ds:List Β},d∈ds->d.depth<=χ ds
 | e::ds,h=>by
  simp only [χ];rcases Υ.mp h with rfl | h
  ·omega
  ·have:=Xu h
   omega
theorem XV {n:Nat}:∀ {ds:List Β},(∀ d∈ds,d.depth<=n)->χ ds<=n
 | [],_=>by simp [χ]
 | e::ds,h=>by
  simp only [χ];have h1:=h e (.head _);have h2:=XV (ds:=ds) fun d hd=>h d (.tail _ hd)
  omega
end L2
namespace L2
open PySem PySem.Spec PyProof.Rows
def cb:Nat->Nat
 | 0=>0
 | n+1=>1+4*cb n
def sb:Nat->Nat
 | 0=>60
 | n+1=>4*sb n+11
end L2
set_option maxHeartbeats 4000000
namespace PySem.W
open PySem PySem.Calls PyProof.Rows
section sort
variable {f:Nat->Nat->Bool} {n:Nat}
structure Ny (f:Nat->Nat->Bool) (n:Nat):Prop where
 asy:∀ i j,i<n->j<n->f i j=true->f j i=false
 tr:∀ i j k,i<n->j<n->k<n->f j i=false->f k j=false->f k i=false
variable (O:Ny f n) (h0:0<n)
include O h0
end sort
end PySem.W
set_option maxHeartbeats 4000000
set_option maxHeartbeats 4000000
set_option maxHeartbeats 4000000
set_option maxHeartbeats 4000000
set_option maxHeartbeats 4000000
set_option maxHeartbeats 4000000
set_option maxHeartbeats 4000000
namespace L2
open PySem PySem.Spec PyProof.Rows
theorem aY.toF {P:Ο} {w:ε} {K:Κ} {mg:Str->Option Α} {base:Heap} {k:Nat} {f:Addr} {fd:bg} {ps:List Str} {sp:Sp} (F:aY P w K mg base bV k f fd ps sp):aY P w K mg base (jF P w) k f fd ps sp :=
 ⟨F.len,fun A outer s H args us vs Q E hr e0 hb r hsp=>fA (F.run A outer s H args us vs Q E hr e0 hb r hsp) fun r s' hq=>by
  cases r with
  | error e=>exact bi hq
  | ok fl=>cases fl<;>exact hq⟩
theorem Gx.Fn.toF {g:Gx} {k:Nat} {x:Str} {ps:List Str} {sp:Sp} (F:g.Fn k x ps sp):g.gq k x ps sp:=by
 obtain ⟨f,fd,F,r⟩:=F;exact ⟨f,fd,F.toF,r⟩
set_option maxHeartbeats 4000000
set_option maxHeartbeats 4000000
inductive Nz (L:List (Addr×Sp)) (H:Hp) (a:Addr) (m:Str) (Q:Sp->Prop):Prop
 | mk (C:Addr) (sp:Sp) (hm:(C,sp)∈L) (dx:Addr) (fs:List (Str×V)) (h:H a=some (.ins C dx fs)) (l:fs.lookup m=none) (q:Q sp)
theorem Yp {s u:TS} {D:Ends} {σ:St} {H:Hp} (h:∀ R:St->Hp->Prop,(∀ σ' H',u D σ' H'->R σ' H')->s { D with nx:=R } σ H):W4 s u D σ H:=h _ fun _ _ h=>h
def IW (L:List (Addr×Sp)) (m:Str) (ta:TE) (t:TA):TE:=fun σ H Q=>ta σ H fun x H1=>kR x fun a=>Nz L H1 a m fun sp=>t σ H1 fun vs H2=>sp (.ref a::vs) H2 Q E0
def Em (s:Stmt):Expr:=match s with
 | .Assign _ (.Call _ as _ _) _=>as.getLastD (.Constant .none 0 ⟨0,0,0,0⟩)
 | .Return (some (.Call _ as _ _)) _=>as.getLastD (.Constant .none 0 ⟨0,0,0,0⟩)
 | .If (.Compare (.Call _ as _ _) _ _ _) _ _ _=>as.getLastD (.Constant .none 0 ⟨0,0,0,0⟩)
 | _ => .Constant .none 0 ⟨0,0,0,0⟩
section
variable {prog:Ο} {w:ε} {A:τ} {E:Α->Δ->Prop} {s:Δ} {R:Result->Δ->Prop} {z TI TO i1 i2 S p1:Addr}
theorem YeL {Q:Option Α->Δ->Prop} (hh:A.handled=none) (c1:i1≠z) (c2:p1≠z) (hz:IsZip s.heap z TI TO .none) (hTI:IsPair s.heap TI (.ref i1) (.ref i2)) (h1:s.heap.IsTupleIter i1 p1 0) (t1:s.heap.IsTuple p1 #[])
  (hQ:∀ h' tk,(∀ c o,c≠z->c≠i1->s.heap.get? c=some o->h'.get? c=some o)->Q none { s with heap:=h',toks:=tk }):Ξ (γ prog w) A (pyNext (.ref z)) Q E s:=by
 have hT:s.TypeIs (.ref z) "zip":=⟨_,hz,rfl⟩;unfold pyNext;refine Θ (wpAny_attempt (df (name:=bp "__next__") hT F.slot_zip_next (c8 F.slot_zip_next hT F.entry_zip_next ?_ (F.args_zip_next_1 _))))
 show Ξ _ _ (field (.ref z) 2 >>= _) _ _ _
 refine Θ (cr hz rfl (x := .bool false) rfl ?_)
 show Ξ _ _ (field (.ref z) 3 >>= _) _ _ _
 refine Θ (cr hz rfl (x := .ref TI) rfl ?_);refine Θ (eL hTI rfl ?_)
 show Ξ _ _ (Builtin.SmallTypes.ownedTupleIsFree (.ref z) >>= _) _ _ _
 refine Θ ?_;unfold Builtin.SmallTypes.ownedTupleIsFree;refine Θ (cr hz rfl (x := .none) rfl (Ψ ?_));simp only [if_true];refine Θ (iX ?_);refine Θ (cr hz rfl (x := .ref TO) rfl ?_);refine Θ (wpAny_setField_rec hz (by simp) fun h₁ hz₁ hs₁=>?_)
 replace hz₁:IsZip h₁ z TI TO .ellipsis:=hz₁
 refine Θ ?_;simp only [List.zipIdx_cons,List.zipIdx_nil,List.forIn_cons,List.forIn_nil];refine Θ (Θ (wpAny_onRaise ?_))
 show Ξ _ _ (br (.ref i1) >>= _) _ _ _
 obtain ⟨o1,e1,r1⟩:=h1;obtain ⟨o3,e3,r3⟩:=t1;refine Θ (Ug (s:={ s with heap:=h₁ }) (items:=#[]) hh ⟨o1,hs₁.extBut _ _ c1 e1,r1⟩ ⟨o3,hs₁.extBut _ _ c2 e3,r3⟩ rfl fun h₂ e hs₂ he=>?_);obtain ⟨oe,hoe,hce⟩:=he;have hz₂:IsZip h₂ z TI TO .ellipsis:=hs₂ _ _ c1.symm hz₁;have hez:e≠z:=fun x=>by subst x;rw [hz₂] at hoe;cases hoe;simp at hce
 refine wpAny_setField_rec hz₂ (by simp) fun h₃ _ hs₃=>?_
 refine Θ (wpAny_isInstance (T:="StopIteration") (b:=true) ⟨oe,hs₃.extBut _ _ hez hoe,hce⟩ isSubtype_stop ?_);exact Ψ (hQ h₃ s.toks fun c o c1 c3 x=>hs₃.extBut _ _ c1 (hs₂ _ _ c3 (hs₁.extBut _ _ c1 x)))
theorem Qg {Q:Α->Δ->Prop} (hh:A.handled=none) (c1:i1≠z) (c2:p1≠z) (hz:IsZip s.heap z TI TO .none) (hTI:IsPair s.heap TI (.ref i1) (.ref i2)) (h1:s.heap.IsTupleIter i1 p1 0) (t1:s.heap.IsTuple p1 #[])
  (hQ:∀ (h':Heap) (tk c:Nat),(∀ b o,b≠z->b≠i1->s.heap.get? b=some o->h'.get? b=some o)->h'.get? s.heap.objs.size=some { cls := .type "list",dict:=none,data := .seq #[] c,slots:=#[] }->Q (.ref s.heap.objs.size) { s with heap:=h',toks:=tk }) :
  Ξ (γ prog w) A (call (.type "list") [.ref z]) Q E s:=by
 refine callType_codes (Q₁:=fun obj s₁=>obj = .ref s.heap.objs.size/\s₁={ s with heap:=s.heap.push { cls := .type "list",data := .seq #[] } }) F.called_list (F.typeCall_list_1 _) F.entry_list_init
  (code_list_new _ ⟨rfl,rfl⟩) fun obj s₁ h₁=>?_
 obtain ⟨rfl,rfl⟩:=h₁;have hS:(s.heap.push { cls := .type "list",data := .seq #[] }).get? s.heap.objs.size=some { cls := .type "list",data := .seq #[] }:=Ω _ rfl;obtain ⟨o1,e1,r1⟩:=h1;obtain ⟨o3,e3,r3⟩:=t1;have lz:=Ρ hz;have l1:=Ρ e1;refine ⟨⟨_,hS,rfl⟩,F.args_list_init_2 _ _,?_⟩
 show Ξ _ _ (do let old <- Builtin.List.listItems (.ref s.heap.objs.size);Builtin.List.listUpdate (.ref s.heap.objs.size) (fun _=>#[]);letGo old.toList.reverse;Builtin.List.listExtendWith (.ref s.heap.objs.size) (.ref z) .none) _ _ _
 refine Θ ?_;unfold Builtin.List.listItems;refine Θ (eL hS rfl (Ψ ?_))
 show Ξ _ _ (updateSeq s.heap.objs.size (fun _=>#[]) >>= fun _=>letGo (#[]:Array Α).toList.reverse >>= fun _=>Builtin.List.listExtendWith (.ref s.heap.objs.size) (.ref z) .none) _ _ _
 refine Θ (wpAny_updateSeq hS rfl ?_);have hS₂:=dS (eR (fun _=>(#[]:Array Α))) hS rfl;have m:∀ b o,s.heap.get? b=some o->((s.heap.push { cls := .type "list",data := .seq #[] }).update s.heap.objs.size (eR (fun _=>(#[]:Array Α)))).get? b=some o:=fun b o e=>(du _ _ (ω (υ (Ρ e)))).trans (Η _ e)
 refine Θ (wpAny_letGo ?_);have hT:({ s with heap:=(s.heap.push { cls := .type "list",data := .seq #[] }).update s.heap.objs.size (eR (fun _=>(#[]:Array Α))) }:Δ).TypeIs (.ref z) "zip":=⟨_,m _ _ hz,rfl⟩;generalize (s.heap.push { cls := .type "list",data := .seq #[] }).update s.heap.objs.size (eR (fun _=>(#[]:Array Α)))=hp at hS₂ m hT;have key:∀ (h:Heap) (c₁ tk:Nat),(∀ b o,s.heap.get? b=some o->h.get? b=some o)->h.get? s.heap.objs.size=some { cls := .type "list",data := .seq #[] c₁ }->f6 (γ prog w) A.in1 (.builtin "list.extend.loop" ⟨[.ref s.heap.objs.size,.ref z,.none],[]⟩) (wants (fun r s₂=>r = .none/\Q (.ref s.heap.objs.size) s₂) E) { s with heap:=h,toks:=tk }:=by
  intro h c₁ tk hk hS₁;refine codeAny_builtin F.entry_extend_loop ?_;rw [Around.under_plainId F.plain_extend_loop _]
  show Ξ _ _ (pyNext (.ref z) >>= _) _ _ _
  exact Θ (YeL (s:={ s with heap:=h,toks:=tk }) hh c1 c2 (hk _ _ hz) (hk _ _ hTI) ⟨o1,hk _ _ e1,r1⟩ ⟨o3,hk _ _ e3,r3⟩ fun h' tk' kp=>Ψ ⟨rfl,hQ h' tk' c₁ (fun b o b1 b2 e=>kp b o b1 b2 (hk b o e)) (kp _ _ (ek lz) (ek l1) hS₁)⟩)
 unfold Builtin.List.listExtendWith;refine Θ (wpAny_typeOf (T:="zip") hT ?_);have h1:Builtin.List.listSameRef (.ref s.heap.objs.size) (.ref z)=false:=by simp [Builtin.List.listSameRef,ek lz]
 have h2:(eQ "zip"==eQ "list")=false:=by decide
 have h3:(eQ "zip"==eQ "tuple")=false:=by decide
 simp only [h1,h2,h3,Bool.or_false,cq,if_false];refine Θ (wpAny_pyIter_zip (m _ _ hz) ?_);refine Θ (wpAny_holding (TX hT ?_));refine wpAny_ite_split (fun _=>?_) (fun _=>Ψ ⟨plainId_quiet F.plain_extend_loop _,key _ _ _ m hS₂⟩);refine Θ (iX ?_);refine Θ ?_
 show Ξ _ _ (updateSeq s.heap.objs.size (·.push .none) >>= fun _=>updateSeq s.heap.objs.size (·.pop)) _ _ _
 refine Θ (wpAny_updateSeq hS₂ rfl ?_);have hS₃:=dS (eR (·.push bE)) hS₂ rfl;refine wpAny_updateSeq (hz:=by seq_fits) hS₃ rfl ?_;have hS₄:=dS (eR (·.pop)) hS₃ rfl;refine Ψ ⟨plainId_quiet F.plain_extend_loop _,key _ _ _ (fun b o e=>?_) hS₄⟩;have hb:=ω (υ (Ρ e));exact (du _ _ hb).trans ((du _ _ hb).trans (m b o e))
end
section
variable {X:Cx}
def xQ (K:Κ) (ta:TA):TE:=fun σ H Q=>ta σ H fun vs H1=>∃ a b,vs=[.ref a,.ref b]/\aq K H1 a []/\aq K H1 b []/\∀ l,H1 l=none->Q (.ref l) (upd H1 l (.lst []))
theorem Yax {a b:Expr} {ta:TA} {p q pos pos':Pos} (hgl:Gl X "list") (hml:X.mg "list"=none) (hg:Gl X "zip") (hm:X.mg "zip"=none) (ha:PA X [a,b] ta) (hc:X.calm=true)
  (hs:Φ [a,b] X.env=[(false,eval a X.env),(false,eval b X.env)]) (hs2:Φ [b] X.env=[(false,eval b X.env)]) :
  PE X (.Call (.Name "list" p) [.Call (.Name "zip" q) [a,b] [] pos'] [] pos) (xQ X.K ta):=by
 intro pins s σ H Q I h;refine bz (XT I hgl hml boot_list ?_);refine be ?_
 show Ξ _ _ (spliced ((false,eval (.Call (.Name "zip" q) [a,b] [] pos') X.env)::[])) _ _ s
 refine Calls.spliced_cons ?_;refine bz (XT I hg hm boot_zip (be (aG (ha pos' pins s σ H _ I h) fun us s1 ⟨vs,H1,I1,r1,q1⟩=>?_) (by rw [hs,hs2]) (by rw [hs2];rfl)));obtain ⟨x,y,e,hx,hy,q⟩:=q1;subst e;obtain ⟨u,v,rfl,ru,rv⟩:=r1.two
 cases ru
 cases rv
 obtain ⟨i1,w1,ht1,z1⟩:=I1.tuple hx;obtain ⟨i2,w2,xR,z2⟩:=I1.tuple hy
 cases w1
 have l1:x<s1.heap.objs.size:=by obtain ⟨_,e,_⟩:=ht1;exact Ρ e
 refine SQ (Vt ht1) (Vt xR) rfl rfl fun h1 hz hTI hTO g1 g2 hsz keep=>?_
 refine Calls.spliced_nil ?_;have I2:Inv X pins σ H1 { s1 with heap:=h1 }:=I1.kept (t':=s1.toks) keep;have t1:h1.IsTuple x #[]:=by obtain ⟨o,e,r⟩:=ht1;exact ⟨o,keep _ _ e,r⟩
 refine Qg (s:={ s1 with heap:=h1 }) (I2.ok.hd hc) (by show @Ne Nat _ _;omega) (fun z=>by rw [z] at l1;exact absurd l1 (by show ¬ @LT.lt Nat _ _ _;omega)) hz hTI ⟨_,g1,rfl,rfl⟩ t1 fun h' tk c kp hS=>?_
 have fr:=I2.hok.fresh (Μ h1.objs.size);have I3:Inv X pins σ (upd H1 h1.objs.size (.lst [])) { s1 with heap:=h',toks:=tk }:=by
  refine I2.vq (s:={ s1 with heap:=h1 }) (ch:=[s1.heap.objs.size+4,s1.heap.objs.size]) (fun b o hb e=>kp b o (fun z=>hb (by simp [z])) (fun z=>hb (by simp [z])) e) (fun b hb=>?_) (fun b u e=>by rw [Yg (Yj e fr)];exact e) (fun b u e hn=>?_)
  ·have hle:s1.heap.objs.size<=b:=by
    simp only [Υ,a7,or_false] at hb;rcases hb with e | e<;>(have e':@Eq Nat _ _:=e;show @LE.le Nat _ s1.heap.objs.size b;omega)
   exact I1.dO hle (I1.hok.fresh hle)
  ·by_cases hb:b=h1.objs.size
   ·subst hb
    rw [Yb] at e
    cases e
    exact ⟨Μ _,az _,[],c,.nil,hS⟩
   ·rw [Yg hb,hn] at e;cases e
 exact ⟨.ref h1.objs.size,_,I3,rfl,q _ fr⟩
end
end L2
set_option maxHeartbeats 8000000
namespace KW
open PySem L2
def top (i:Nat):Stmt:=PySem.Challenge.pw_countgen_k84_whole_deeds_shrunk.main.body.getD i (.Pass ⟨0,0,0,0⟩)
abbrev Um:Stmt:=top 2
theorem YdG:ak ["thing"] ["thing"] (Yi Um):=⟨rfl,rfl,rfl,by decide +kernel,rfl,by decide +kernel,by decide +kernel⟩
abbrev xT:Stmt:=top 10
theorem Ja:ak ["shape","kind"] ["shape"] (Yi xT):=⟨rfl,rfl,rfl,by decide +kernel,rfl,by decide +kernel,by decide +kernel⟩
abbrev xU:Stmt:=top 14
theorem Z2J:ak ["thing"] ["thing"] (Yi xU):=⟨rfl,rfl,rfl,by decide +kernel,rfl,by decide +kernel,by decide +kernel⟩
abbrev xV:Stmt:=top 15
theorem xW:ak ["branches","mark","place","branch"] ["branches","mark"] (Yi xV):=⟨rfl,rfl,rfl,by decide +kernel,rfl,by decide +kernel,by decide +kernel⟩
abbrev xX:Stmt:=top 16
theorem YaX:ak ["branches","value"] ["branches","value"] (Yi xX):=⟨rfl,rfl,rfl,by decide +kernel,rfl,by decide +kernel,by decide +kernel⟩
abbrev xY:Stmt:=top 17
theorem Jb:ak ["shape","value","kind"] ["shape","value"] (Yi xY):=⟨rfl,rfl,rfl,by decide +kernel,rfl,by decide +kernel,by decide +kernel⟩
abbrev xZ:Stmt:=top 18
theorem Jc:ak ["book","shape","value","kind"] ["book","shape","value"] (Yi xZ):=⟨rfl,rfl,rfl,by decide +kernel,rfl,by decide +kernel,by decide +kernel⟩
abbrev yc:Stmt:=top 19
theorem Z3w:ak ["keys"] ["keys"] (Yi yc):=⟨rfl,rfl,rfl,by decide +kernel,rfl,by decide +kernel,by decide +kernel⟩
abbrev yd:Stmt:=top 25
theorem yg:ak ["shape","keys","kind","size","rises"] ["shape","keys"] (Yi yd):=⟨rfl,rfl,rfl,by decide +kernel,rfl,by decide +kernel,by decide +kernel⟩
abbrev yh:Stmt:=top 26
theorem Jd:ak ["shape","value","keys","kind"] ["shape","value","keys"] (Yi yh):=⟨rfl,rfl,rfl,by decide +kernel,rfl,by decide +kernel,by decide +kernel⟩
abbrev yj:Stmt:=top 27
theorem oW:ak ["book","shape","value","keys","part","thing","key"] ["book","shape","value"] (Yi yj):=⟨rfl,rfl,rfl,by decide +kernel,rfl,by decide +kernel,by decide +kernel⟩
abbrev yp:Stmt:=top 30
theorem Ygi:ak ["one","other"] ["one","other"] (Yi yp):=⟨rfl,rfl,rfl,by decide +kernel,rfl,by decide +kernel,by decide +kernel⟩
abbrev yq:Stmt:=top 31
theorem YaY:ak ["thing"] ["thing"] (Yi yq):=⟨rfl,rfl,rfl,by decide +kernel,rfl,by decide +kernel,by decide +kernel⟩
abbrev Qh:Stmt:=top 35
theorem ZP:ak ["begin","done","model_begin","model_done","deeds","state","model_state","place","deed","pair","model_pair"] ["begin","done","model_begin","model_done","deeds"] (Yi Qh):=⟨rfl,rfl,rfl,by decide +kernel,rfl,by decide +kernel,by decide +kernel⟩
abbrev tH:Stmt:=top 36
theorem QL:ak ["begin","done","model_begin","model_done"] ["begin","done","model_begin","model_done"] (Yi tH):=⟨rfl,rfl,rfl,by decide +kernel,rfl,by decide +kernel,by decide +kernel⟩
abbrev yr:Stmt:=top 38
theorem Je:ak ["book","shape","value","key"] ["book","shape","value"] (Yi yr):=⟨rfl,rfl,rfl,by decide +kernel,rfl,by decide +kernel,by decide +kernel⟩
abbrev yt:Stmt:=top 39
theorem Ygj:ak ["book","shape","value"] ["book","shape","value"] (Yi yt):=⟨rfl,rfl,rfl,by decide +kernel,rfl,by decide +kernel,by decide +kernel⟩
abbrev yu:Stmt:=top 40
theorem Z2L:ak ["book","shape","value"] ["book","shape","value"] (Yi yu):=⟨rfl,rfl,rfl,by decide +kernel,rfl,by decide +kernel,by decide +kernel⟩
abbrev yw:Stmt:=top 41
theorem Ycz:ak ["book","shape","value"] ["book","shape","value"] (Yi yw):=⟨rfl,rfl,rfl,by decide +kernel,rfl,by decide +kernel,by decide +kernel⟩
abbrev Qi:Stmt:=top 68
theorem YeM:ak ["judge","value"] ["judge","value"] (Yi Qi):=⟨rfl,rfl,rfl,by decide +kernel,rfl,by decide +kernel,by decide +kernel⟩
abbrev yC:Stmt:=top 70
theorem Jf:ak ["maker","below","size"] ["maker","below"] (Yi yC):=⟨rfl,rfl,rfl,by decide +kernel,rfl,by decide +kernel,by decide +kernel⟩
abbrev yD:Stmt:=top 72
theorem tK:ak ["low","value","steps","distance"] ["low","value"] (Yi yD):=⟨rfl,rfl,rfl,by decide +kernel,rfl,by decide +kernel,by decide +kernel⟩
abbrev yE:Stmt:=top 73
theorem Z3x:ak ["things"] ["things"] (Yi yE):=⟨rfl,rfl,rfl,by decide +kernel,rfl,by decide +kernel,by decide +kernel⟩
abbrev yF:Stmt:=top 74
theorem ZJ:ak ["things","inner","changed","place","steps"] ["things","inner"] (Yi yF):=⟨rfl,rfl,rfl,by decide +kernel,rfl,by decide +kernel,by decide +kernel⟩
abbrev yG:Stmt:=top 77
theorem YaZ:ak ["book","shape","value"] ["book","shape","value"] (Yi yG):=⟨rfl,rfl,rfl,by decide +kernel,rfl,by decide +kernel,by decide +kernel⟩
abbrev yH:Stmt:=top 79
theorem Jg:ak ["judge","values","value"] ["judge","values"] (Yi yH):=⟨rfl,rfl,rfl,by decide +kernel,rfl,by decide +kernel,by decide +kernel⟩
abbrev yI:Stmt:=top 80
theorem tL:ak ["judge","value","values_next","breaches","reached"] ["judge","value","values_next"] (Yi yI):=⟨rfl,rfl,rfl,by decide +kernel,rfl,by decide +kernel,by decide +kernel⟩
abbrev yJ:Stmt:=top 82
theorem V1:ak ["deeds","told","length"] ["deeds"] (Yi yJ):=⟨rfl,rfl,rfl,by decide +kernel,rfl,by decide +kernel,by decide +kernel⟩
abbrev ZM:Stmt:=top 83
theorem yK:ak ["book","shape","begin","done","model_begin","model_done","deeds","many","judge"] ["book","shape","begin","done","model_begin","model_done","deeds"] (Yi ZM):=⟨rfl,rfl,rfl,by decide +kernel,rfl,by decide +kernel,by decide +kernel⟩
abbrev yL:Stmt:=top 85
theorem tM:ak ["_law_script","_law_k","_law_step","_law_found","_law_cell"] ["_law_script","_law_k","_law_step"] (Yi yL):=⟨rfl,rfl,rfl,by decide +kernel,rfl,by decide +kernel,by decide +kernel⟩
abbrev yM:Stmt:=top 86
theorem yN:ak ["_law_value","_law_found","_law_thing_here"] ["_law_value"] (Yi yM):=⟨rfl,rfl,rfl,by decide +kernel,rfl,by decide +kernel,by decide +kernel⟩
abbrev yO:Stmt:=top 87
theorem tO:ak ["_law_value","_law_some","_law_sizes","_law_one"] ["_law_value"] (Yi yO):=⟨rfl,rfl,rfl,by decide +kernel,rfl,by decide +kernel,by decide +kernel⟩
abbrev yP:Stmt:=top 88
theorem Ya0:ak ["_law_value"] ["_law_value"] (Yi yP):=⟨rfl,rfl,rfl,by decide +kernel,rfl,by decide +kernel,by decide +kernel⟩
abbrev yQ:Stmt:=top 89
theorem yR:ak ["_law_cell","_law_way","_law_low","_law_far"] ["_law_cell","_law_way","_law_low"] (Yi yQ):=⟨rfl,rfl,rfl,by decide +kernel,rfl,by decide +kernel,by decide +kernel⟩
abbrev yS:Stmt:=top 90
theorem Jh:ak ["_law_way","_law_low","_law_part"] ["_law_way","_law_low"] (Yi yS):=⟨rfl,rfl,rfl,by decide +kernel,rfl,by decide +kernel,by decide +kernel⟩
abbrev yU:Stmt:=top 91
theorem QM:ak ["_law_deed_here","_law_low"] ["_law_deed_here","_law_low"] (Yi yU):=⟨rfl,rfl,rfl,by decide +kernel,rfl,by decide +kernel,by decide +kernel⟩
abbrev yV:Stmt:=top 92
theorem Ya1:ak ["_law_how","_law_bad","_law_weights"] ["_law_how","_law_bad","_law_weights"] (Yi yV):=⟨rfl,rfl,rfl,by decide +kernel,rfl,by decide +kernel,by decide +kernel⟩
abbrev yW:Stmt:=top 93
theorem yX:ak ["_law_how","_law_bad","_law_low","_law_deeds","_law_weights","_law_deed_here"] ["_law_how","_law_bad","_law_low","_law_deeds"] (Yi yW):=⟨rfl,rfl,rfl,by decide +kernel,rfl,by decide +kernel,by decide +kernel⟩
abbrev oX:Stmt:=top 94
theorem yZ:ak ["_law_how","_law_bad","_law_low","_law_begin","_law_done"] ["_law_how","_law_bad","_law_low"] (Yi oX):=⟨rfl,rfl,rfl,by decide +kernel,rfl,by decide +kernel,by decide +kernel⟩
abbrev za:Stmt:=top 95
theorem oY:ak ["_law_deeds","_law_found","_law_length","_law_at"] ["_law_deeds"] (Yi za):=⟨rfl,rfl,rfl,by decide +kernel,rfl,by decide +kernel,by decide +kernel⟩
abbrev zf:Stmt:=top 96
theorem tQ:ak ["_law_found","_law_book","_law_shape_here","_law_plan","_law_deeds","_law_k","_law_lesser","_law_due"] ["_law_found","_law_book","_law_shape_here","_law_plan","_law_deeds"] (Yi zf):=⟨rfl,rfl,rfl,by decide +kernel,rfl,by decide +kernel,by decide +kernel⟩
abbrev Q2:Stmt:=top 97
theorem Xp:ak ["_law_script","_law_cell","_law_low","_law_way","_law_how","_law_bad","_law_many","_law_shape_here","_law_deeds","_law_one","_law_other","_law_handed","_law_book","_law_found"] ["_law_script"] (Yi Q2):=⟨rfl,rfl,rfl,by decide +kernel,rfl,by decide +kernel,by decide +kernel⟩
abbrev zj:Stmt:=Xg (top 66) 0
theorem Z2Q:ak ["self","book"] ["self","book"] (Yi zj):=⟨rfl,rfl,rfl,by decide +kernel,rfl,by decide +kernel,by decide +kernel⟩
abbrev zm:Stmt:=Xg (top 66) 1
theorem Z2R:ak ["self","shape"] ["self","shape"] (Yi zm):=⟨rfl,rfl,rfl,by decide +kernel,rfl,by decide +kernel,by decide +kernel⟩
abbrev zp:Stmt:=Xg (top 66) 3
theorem ZV:ak ["self","shape","kind","parts"] ["self","shape"] (Yi zp):=⟨rfl,rfl,rfl,by decide +kernel,rfl,by decide +kernel,by decide +kernel⟩
abbrev ZW:Stmt:=Xg (top 52) 0
theorem Z22:ak ["self","parts"] ["self","parts"] (Yi ZW):=⟨rfl,rfl,rfl,by decide +kernel,rfl,by decide +kernel,by decide +kernel⟩
abbrev zq:Stmt:=Xg (top 52) 1
theorem Z2p:ak ["self","place","left"] ["self","place","left"] (Yi zq):=⟨rfl,rfl,rfl,by decide +kernel,rfl,by decide +kernel,by decide +kernel⟩
abbrev ZX:Stmt:=Xg (top 52) 2
theorem Ji:ak ["self","size","place"] ["self","size"] (Yi ZX):=⟨rfl,rfl,rfl,by decide +kernel,rfl,by decide +kernel,by decide +kernel⟩
abbrev ZY:Stmt:=Xg (top 59) 0
theorem Z23:ak ["self","parts"] ["self","parts"] (Yi ZY):=⟨rfl,rfl,rfl,by decide +kernel,rfl,by decide +kernel,by decide +kernel⟩
abbrev ZZ:Stmt:=Xg (top 59) 1
theorem Z24:ak ["self","size"] ["self","size"] (Yi ZZ):=⟨rfl,rfl,rfl,by decide +kernel,rfl,by decide +kernel,by decide +kernel⟩
abbrev zu:Stmt:=Xg (top 59) 2
theorem Zo:ak ["self","size","number","things","left","rest","place","part","found"] ["self","size","number"] (Yi zu):=⟨rfl,rfl,rfl,by decide +kernel,rfl,by decide +kernel,by decide +kernel⟩
abbrev zx:Stmt:=Xg (top 76) 0
theorem Z2q:ak ["self","book"] ["self","book"] (Yi zx):=⟨rfl,rfl,rfl,by decide +kernel,rfl,by decide +kernel,by decide +kernel⟩
abbrev ZQ:Stmt:=Xg (top 76) 1
theorem ZB:ak ["self","shape","value","inner","part","thing"] ["self","shape","value"] (Yi ZQ):=⟨rfl,rfl,rfl,by decide +kernel,rfl,by decide +kernel,by decide +kernel⟩
abbrev zy:Stmt:=Xg (top 76) 2
theorem zA:ak ["self","shape","value","inner","kind","steps"] ["self","shape","value","inner"] (Yi zy):=⟨rfl,rfl,rfl,by decide +kernel,rfl,by decide +kernel,by decide +kernel⟩
abbrev ZH:Stmt:=Xg (top 76) 3
theorem Zj:ak ["self","shape","value","below","steps","mark","part","least"] ["self","shape","value"] (Yi ZH):=⟨rfl,rfl,rfl,by decide +kernel,rfl,by decide +kernel,by decide +kernel⟩
abbrev zB:Stmt:=Xg (top 55) 0
theorem Z3b:ak ["self"] ["self"] (Yi zB):=⟨rfl,rfl,rfl,by decide +kernel,rfl,by decide +kernel,by decide +kernel⟩
abbrev zE:Stmt:=Xg (top 55) 1
theorem Z25:ak ["self","size"] ["self","size"] (Yi zE):=⟨rfl,rfl,rfl,by decide +kernel,rfl,by decide +kernel,by decide +kernel⟩
abbrev ZR:Expr:=Nx (QZ tH 0)
theorem Z3c:bY ["deeds","model_done","model_begin","done","begin"] ["deeds"] ["model_done","model_begin","done","begin"] (Vp ZR):=⟨rfl,rfl,rfl,by decide +kernel,rfl,rfl,by decide,by decide +kernel,by decide +kernel,by decide +kernel,by decide +kernel⟩
abbrev Zv:Str:="deed_judge.<locals>.<lambda>"
theorem V5:((("deed_judge":Str)++(".<locals>.":Str))++("<lambda>":Str))=Zv:=by decide +kernel
abbrev ZK (cl:List (Str×Addr)) (c:Addr) (pm ctv:Α):FuncData:=ix "<lambda>" Zv (Ig ZR) (Ih ZR) (Vp ZR) cl pm (.ref c) ctv
abbrev ZF:Expr:=Em (QZ ZM 3)
theorem Z2r:bY ["breach","many","book"] ["breach"] ["many","book"] (Vp ZF):=⟨rfl,rfl,rfl,by decide +kernel,rfl,rfl,by decide,by decide +kernel,by decide +kernel,by decide +kernel,by decide +kernel⟩
abbrev Zr:Str:="shrunk_deeds.<locals>.<lambda>"
theorem Vw:((("shrunk_deeds":Str)++(".<locals>.":Str))++("<lambda>":Str))=Zr:=by decide +kernel
abbrev Zu (cl:List (Str×Addr)) (c:Addr) (pm ctv:Α):FuncData:=ix "<lambda>" Zr (Ig ZF) (Ih ZF) (Vp ZF) cl pm (.ref c) ctv
abbrev Zy:Stmt:=QZ oX 0
theorem Z1u:bY [] [] [] (Yi Zy):=⟨rfl,rfl,rfl,by decide +kernel,rfl,rfl,by decide,by decide +kernel,by decide +kernel,by decide +kernel,by decide +kernel⟩
abbrev Zl:Str:="_law_thing.<locals>._law_begin"
theorem WM:((("_law_thing":Str)++(".<locals>.":Str))++("_law_begin":Str))=Zl:=by decide +kernel
abbrev Zt (cl:List (Str×Addr)) (c:Addr) (doc pm ctv:Α):FuncData:=W.fnX "_law_begin" Zl (Y4 Zy) (YS Zy) (Yi Zy) cl .none .none doc pm none (.ref c) ctv
abbrev ZC:Stmt:=QZ oX 1
theorem Jj:bY ["_law_state","_law_deed_here","_law_some","_law_low","_law_how","_law_bad"] ["_law_state","_law_deed_here"] ["_law_low","_law_how","_law_bad"] (Yi ZC):=⟨rfl,rfl,rfl,by decide +kernel,rfl,rfl,by decide,by decide +kernel,by decide +kernel,by decide +kernel,by decide +kernel⟩
abbrev Zn:Str:="_law_thing.<locals>._law_done"
theorem Va:((("_law_thing":Str)++(".<locals>.":Str))++("_law_done":Str))=Zn:=by decide +kernel
abbrev Zz (cl:List (Str×Addr)) (c:Addr) (doc pm ctv:Α):FuncData:=W.fnX "_law_done" Zn (Y4 ZC) (YS ZC) (Yi ZC) cl .none .none doc pm none (.ref c) ctv
variable {g:Gx}
local macro_rules | `(tactic| walk_at "rd")=>`(tactic| (dsimp (config:={ failIfUnchanged:=false }) only [L2.Xz,Hh,Hi,af,c6,am,ik,List.cons_append,List.nil_append,List.replicate_succ,List.replicate_zero,Nat.reduceAdd,Nat.reduceSub,W4,oE,Uu,iI,tC,W3,fK,rI,rU,vW,UU,Fp,QR,Up,Fl,Fo,rN,YE,Uv,UV,lY,Vl,wW,Hy,Hv,qL,qK,QV,QU,Ends.gone,tB,qF,vJ,qG,vK,vL,vM,vN,v8,UW,wg,wj,vO,vR,qO,rW,rY,qN,qM,qH,qT,Hu,wV,Hr,GF,wC,GD,HB,wZ,Qa,IW,U9,wR,wU,wk,oJ,qP,UZ,Gp,oF,v7,qQ,Gi,vQ,Fv,YF,List.getD_cons_zero,List.getD_cons_succ,List.getElem?_cons_zero,List.getElem?_cons_succ,List.set_cons_zero,List.set_cons_succ,Fd,Fe,Ew,Ey,Ez,EY,Fb,rZ,wI,Gb,Gd,FJ,FN];simp (config:={ failIfUnchanged:=false,maxSteps:=10000000 }) only [L2.Xz,Hh,Hi,af,c6,am,ik,List.cons_append,List.nil_append,List.replicate_succ,List.replicate_zero,Nat.zero_add,Nat.reduceAdd,Nat.reduceSub,ei,W4,oE,Uu,iI,tC,W3,fK,rI,rU,vW,UU,Fp,QR,Up,Fl,Fo,rN,YE,vP,Ft,Uv,UV,lY,Vl,wW,Hy,Hv,qL,qK,QV,QU,Ends.gone,tB,qF,vJ,qG,vK,vL,vM,vN,v8,UW,wg,wj,vO,vR,qO,rW,rY,qN,qM,qH,qT,Hu,wV,Hr,GF,wC,GD,HB,wZ,Qa,IW,U9,wR,wU,wk,oJ,qP,UZ,Gp,oF,v7,S9,Tc,qQ,Gi,vQ,Fv,YF,List.getD_cons_zero,List.getD_cons_succ,decide_true,not_true_eq_false,not_false_eq_true,exists_eq_left',exists_eq_left,exists_eq',exists_eq,exists_and_left,and_assoc,Option.some.injEq,V.int.injEq,V.bl.injEq,V.ref.injEq,V.str.injEq,List.getElem?_cons_zero,List.getElem?_cons_succ,List.set_cons_zero,List.set_cons_succ,List.cons.injEq,and_true,true_and,ay,decide_eq_true_eq,Bool.not_eq_true',decide_eq_false_iff_not,Bool.not_not,Bool.not_true,Bool.not_false,Bool.true_eq_false,cq,if_true,if_false,ite_true,ite_false,Fd,Fe,Ew,Ey,Ez,EY,Fb,rZ,wI,Gb,Gd,FJ,FN,US,UT,W0,vZ]))
theorem cm {i j:Int} {m n:Nat} (h1:i.natAbs<2^m) (h2:j.natAbs<2^n) (h:m+n<=100000000:=by decide):QY i j:=⟨m,n,h1,h2,h⟩
theorem tU {i j:Int} (h:0<=j/\j<=1000000/\i.natAbs<2^64:=by decide):vY i j:=h
theorem few {n:Nat} (h:n<=100000):n<=sizeLine:=ah h (by decide)
theorem Ygk (x:Int) {j:Int} (h:0<j):∃ r:Nat,x%j=r/\(r:Int)<j:=⟨(x%j).toNat,by have:=io x (Int.ne_of_gt h);omega,by have:=Int.emod_lt_of_pos x h;have:=io x (Int.ne_of_gt h);omega⟩
open Classical in
noncomputable def vis (N:Addr->Prop) (H:Hp):Hp:=fun a=>if N a then H a else none
section
 variable {N M:Addr->Prop} {H H':Hp} {a D:Addr} {o:HO}
theorem Jk (n:N a) (h:H a=some o):vis N H a=some o:=by unfold vis;rw [if_pos n];exact h
theorem YgW (h:vis N H a=some o):N a/\H a=some o:=by
 unfold vis at h
 split at h
 ·rename_i c;exact ⟨c,h⟩
 ·cases h
def nD (N:Addr->Prop) (D:Addr):Addr->Prop:=fun a=>N a/\a≠D
end
section
 variable {H:Hp} {v:V}
theorem Jl:∀ {us:List V} {ds:List Β},us.length=ds.length->(∀ (i:Nat) u d,us[i]?=some u->ds[i]?=some d->DV H u d)->aV H us ds
 | [],[],_,_ => .nil
 | u::us,d::ds,h,k => .cons (k 0 u d rfl rfl) (Jl (Nat.succ.inj h) fun i u d e1 e2=>k (i+1) u d e1 e2)
 | [],_::_,h,_=>by cases h
 | _::_,[],h,_=>by cases h
theorem XQ {us:List V} {ds:List Β} (h:aV H us ds) {i:Nat} {u:V} {d:Β} (e1:us[i]?=some u) (e2:ds[i]?=some d):DV H u d:=by
 obtain ⟨d',e,k⟩:=h.at e1;rw [e2] at e
 cases Λ e
 exact k
theorem VM {us:List V} {ds:List Β} (h:aV H us ds) (n:Nat):aV H (us.take n) (ds.take n):=by
 obtain ⟨L,h⟩:=h;obtain ⟨L',h',_⟩:=h.take n;exact ⟨L',h'⟩
theorem zF {us:List V} {ds:List Β} (h:aV H us ds) (n:Nat):aV H (us.drop n) (ds.drop n):=by
 obtain ⟨L,h⟩:=h;obtain ⟨L',h',_⟩:=h.drop n;exact ⟨L',h'⟩
theorem tV (h:DV H v (.tuple [])):∃ a,v = .ref a/\H a=some (.tup []):=by
 obtain ⟨a,us,rfl,ha,_,h⟩:=h.jJ
 cases us with
 | nil=>exact ⟨a,rfl,ha⟩
 | cons u us=>cases h.length
theorem dJ {d e:Β} (h:DV H v (.tuple [d,e])):∃ a u w,v = .ref a/\H a=some (.tup [u,w])/\DV H u d/\DV H w e:=by
 obtain ⟨a,us,rfl,ha,_,h⟩:=h.jJ
 match us,h.length with
 | [u,w],_=>exact ⟨a,u,w,rfl,ha,h.inv.1,h.inv.2.inv.1⟩
theorem iv3 {d e f:Β} (h:DV H v (.tuple [d,e,f])):∃ a u w x,v = .ref a/\H a=some (.tup [u,w,x])/\DV H u d/\DV H w e/\DV H x f:=by
 obtain ⟨a,us,rfl,ha,_,h⟩:=h.jJ
 match us,h.length with
 | [u,w,x],_=>exact ⟨a,u,w,x,rfl,ha,h.inv.1,h.inv.2.inv.1,h.inv.2.inv.2.inv.1⟩
theorem fO {a:Addr} {u w:V} {d e:Β} (h:H a=some (.tup [u,w])) (hu:DV H u d) (hw:DV H w e):DV H (.ref a) (.tuple [d,e]) := .tup h (by simp) (.cons hu (.cons hw .nil))
theorem qW (i:Int):DV H (.int i) (.int i):=⟨[],.int i⟩
theorem Wm (z:Str) (h:fE z=true):DV H (.str z) (.str z):=⟨[],.str z h⟩
end
inductive Sh
 | wh | tx | rw | pk
 | my (p:Sh)
abbrev tW (lo:Int):List V:=[.str "whole",.int lo,.int (lo+7)]
abbrev jK (lo:Int):PyData := .tuple [.str "whole",.int lo,.int (lo+7)]
abbrev cD:PyData := .tuple [.str "row",.tuple []]
def bR (lo:Int):Sh->Β
 | .wh=>jK lo
 | .tx => .tuple [.str "text",.str "ab"]
 | .rw=>cD
 | .pk => .tuple [.str "pick",.tuple [.tuple [.str "ask",cD],.tuple [.str "put",jK lo]]]
 | .my p => .tuple [.str "many",bR lo p]
section
 variable {H:Hp} {lo:Int} {v:V}
theorem Q3 (h:DV H v (jK lo)):∃ a,v = .ref a/\H a=some (.tup (tW lo)):=by
 obtain ⟨a,u,w,x,rfl,ha,h1,h2,h3⟩:=iv3 h
 cases h1.bM.1;cases h2.d8;cases h3.d8
 exact ⟨a,rfl,ha⟩
theorem Q4 (h:DV H v (bR lo .tx)):∃ a,v = .ref a/\H a=some (.tup [.str "text",.str "ab"]):=by
 obtain ⟨a,u,w,rfl,ha,h1,h2⟩:=dJ h
 cases h1.bM.1;cases h2.bM.1
 exact ⟨a,rfl,ha⟩
theorem UJ (h:DV H v cD):∃ a b,v = .ref a/\H a=some (.tup [.str "row",.ref b])/\H b=some (.tup []):=by
 obtain ⟨a,u,w,rfl,ha,h1,h2⟩:=dJ h
 cases h1.bM.1
 obtain ⟨b,rfl,hb⟩:=tV h2;exact ⟨a,b,rfl,ha,hb⟩
structure iz (H:Hp) (lo:Int) (b c0 c1:Addr) (p0 p1:V):Prop where
 b:H b=some (.tup [.ref c0,.ref c1])
 c0:H c0=some (.tup [.str "ask",p0])
 c1:H c1=some (.tup [.str "put",p1])
 p0:DV H p0 cD
 p1:DV H p1 (jK lo)
theorem iz.keep {H':Hp} {b c0 c1:Addr} {p0 p1:V} (h:iz H lo b c0 c1 p0 p1) (s:Ye H H'):iz H' lo b c0 c1 p0 p1:=⟨s _ _ h.b,s _ _ h.c0,s _ _ h.c1,h.p0.keep s,h.p1.keep s⟩
theorem UK (h:DV H v (bR lo .pk)):∃ a b c0 c1 p0 p1,v = .ref a/\H a=some (.tup [.str "pick",.ref b])/\iz H lo b c0 c1 p0 p1:=by
 obtain ⟨a,u,w,rfl,ha,h1,h2⟩:=dJ h
 cases h1.bM.1
 obtain ⟨b,x,y,rfl,hb,h3,h4⟩:=dJ h2;obtain ⟨c0,m,p0,rfl,hc0,h5,h6⟩:=dJ h3;obtain ⟨c1,m',p1,rfl,hc1,h7,h8⟩:=dJ h4
 cases h5.bM.1;cases h7.bM.1
 exact ⟨a,b,c0,c1,p0,p1,rfl,ha,hb,hc0,hc1,h6,h8⟩
theorem Q5 {p:Sh} (h:DV H v (bR lo (.my p))):∃ a w,v = .ref a/\H a=some (.tup [.str "many",w])/\DV H w (bR lo p):=by
 obtain ⟨a,u,w,rfl,ha,h1,h2⟩:=dJ h
 cases h1.bM.1
 exact ⟨a,w,rfl,ha,h2⟩
end
abbrev oZ:PyData := .tuple [.str "ask",.tuple []]
abbrev putD (lo:Int) (o:Nat):PyData := .tuple [.str "put",.int (lo+o)]
def gd (lo:Int):Sh->Β->Prop
 | .wh,d=>∃ o:Nat,o<=7/\d = .int (lo+o)
 | .tx,d=>∃ l:List Nat,(∀ c∈l,c=97\/c=98)/\l.length<=4/\d = .str (S l)
 | .rw,d=>d = .tuple []
 | .pk,d=>d=oZ\/∃ o:Nat,o<=7/\d=putD lo o
 | .my p,d=>∃ ds:List Β,ds.length<=4/\(∀ e∈ds,gd lo p e)/\d = .list ds
def fQ (o:Nat):Nat:=fh (o:Int)
def sz (lo:Int):Sh->Β->Nat
 | .wh,.int i=>fQ (i - lo).toNat
 | .tx,.str z=>z.length
 | .pk,.tuple [_,.int i]=>fQ (i - lo).toNat
 | .my p,.list ds=>ds.length+(ds.map (sz lo p)).sum
 | _,_=>0
def aQ:Sh->Nat
 | .wh=>1 | .tx=>1 | .rw=>1 | .pk=>2 | .my p=>aQ p+1
theorem Wt (lo:Int) (o:Nat):(lo+(o:Int) - lo).toNat=o:=by omega
theorem aR {x y:Str} {i:Nat} {t Xd:TS} {D:Ends} {σ:St} {H:Hp} (hσ:σ[i]?=some (some (.str x))) (h:¬ x=y) (hr:Xd D σ H):W4 (oE (Uu (iI oF (W3 i) (tC (.str y)))) t Up) Xd D σ H:=by
 refine Uo hσ ?_
 show if decide (x=y)=true then _ else _
 rw [if_neg (by simpa using h)];exact hr
theorem cR {x y:Str} {i:Nat} {t Xd:TS} {D:Ends} {σ:St} {H:Hp} (hσ:σ[i]?=some (some (.str x))) (h:x=y) (ht:t { D with nx:=Xd D } σ H):W4 (oE (Uu (iI oF (W3 i) (tC (.str y)))) t Up) Xd D σ H:=by
 refine Uo hσ ?_
 show if decide (x=y)=true then _ else _
 rw [if_pos (by simpa using h)];exact ht
inductive jL (vs:List V) (H:Hp) (Q:VK) (E_:XK):Prop
 | mk (i:Int) (h0:vs=[.int i]) (h1:Q (.bl true) H)
theorem Z2S  (R:g.Raw "is_whole_number" "is_whole_number" xU ["thing"]) (cT:g.mg "bool"=none) (cF:g.mg "int"=none) (Z3:g.mg "isinstance"=none):g.Fn (1) "is_whole_number" ["thing"] (jL):=by
 refine R.fn Z2J (fun vs H Q E h=>by obtain ⟨i,rfl,q⟩:=h;rfl) fun f_ cdv A outer s H vs Q E hr h=>?_
 obtain ⟨i,rfl,q⟩:=h;refine ⟨_,(@Yf _ _ _ (@Yl _ _ _ _ (@X5 _ _ _ _ _ _ _ (@YG _ _ _ _ _ _ _ _ _ _ Z3 YH (@Ya _ _ _ _ _ (pv 0) (@Ya _ _ _ _ _ (@Xk _ _ _ _ ("int") cF (by decide +kernel) (by rfl) (by rfl) (by decide) (by decide)) Yc (by rfl)) (by rfl)) (by decide +kernel) (by rfl) (by rfl) (by decide) (by decide) (by rfl) (by rfl)) (@X4 _ _ _ _ _ (@Pa _ _ _ _ (@YG _ _ _ _ _ _ _ _ _ _ Z3 YH (@Ya _ _ _ _ _ (pv 0) (@Ya _ _ _ _ _ (@Xk _ _ _ _ ("bool") cT (by decide +kernel) (by rfl) (by rfl) (by decide) (by decide)) Yc (by rfl)) (by rfl)) (by decide +kernel) (by rfl) (by rfl) (by decide) (by decide) (by rfl) (by rfl))))))),?_⟩;walk_at "rd";exact ⟨_,rfl,_,.int i,true,rfl,XY ⟨_,rfl,_,.int i,false,rfl,q⟩⟩
def mk:Bool->Str
 | false=>"ask"
 | true=>"put"
def gH:Bool->Sh
 | false => .rw
 | true => .wh
theorem Jm:mk false≠mk true:=by decide +kernel
structure PkV (H:Hp) (lo:Int) (d:Β) (k:Bool) (a:Addr) (u:V) (e:Β):Prop where
 ha:H a=some (.tup [.str (mk k),u])
 hd:d = .tuple [.str (mk k),e]
 hu:DV H u e
 gd:gd lo (gH k) e
 sz:sz lo .pk d=sz lo (gH k) e
theorem Jo {H:Hp} {lo:Int} {v:V} {d:Β} (h:DV H v d) (g:gd lo .pk d):∃ k a u e,v = .ref a/\PkV H lo d k a u e:=by
 rcases g with rfl | ⟨o,ho,rfl⟩
 ·obtain ⟨a,m,u,rfl,ha,h1,h2⟩:=dJ h
  cases h1.bM.1
  exact ⟨false,a,u,_,rfl,ha,rfl,h2,rfl,rfl⟩
 ·obtain ⟨a,m,u,rfl,ha,h1,h2⟩:=dJ h
  cases h1.bM.1
  exact ⟨true,a,u,_,rfl,ha,rfl,h2,⟨o,ho,rfl⟩,rfl⟩
inductive gJ (vs:List V) (H:Hp) (Q:VK) (E_:XK):Prop
 | mk (lo:Int) (b c0 c1:Addr) (p0 p1:V) (k:Bool) (h0:vs=[.ref b,.str (mk k)]) (h1:iz H lo b c0 c1 p0 p1) (h2:∀ H',Ye H H'->Q (.int (k.toNat:Nat)) H')
theorem Z3y  (R:g.Raw "branch_place" "branch_place" xV ["branches","mark"]) (Zi:g.mg "enumerate"=none):g.Fn (1) "branch_place" ["branches","mark"] (gJ):=by
 refine R.fn xW (fun vs H Q E h=>by obtain ⟨lo,b,c0,c1,p0,p1,k,rfl,hP,q⟩:=h;rfl) fun f_ cdv A outer s H vs Q E hr h=>?_
 obtain ⟨lo,b,c0,c1,p0,p1,k,rfl,hP,q⟩:=h;refine ⟨_,(@Yd _ _ _ _ _ (@Xo _ _ _ _ _ _ _ _ ae rfl (@Yem _ _ _ _ _ _ _ _ rfl Zi (@Ya _ _ _ _ _ (pv 0) Yc (by rfl)) (by rfl)) (@WH _ _ _ _ _ (2) rfl (@Y7 _ _ _ _ _ (@Yu _ _ (2) _ xW.nd rfl (.inl rfl) (by first | exact .inl rfl | exact .inr rfl | assumption)) (@Y7 _ _ _ _ _ (@Yu _ _ (3) _ xW.nd rfl (.inl rfl) (by first | exact .inl rfl | exact .inr rfl | assumption)) Wf (by rfl)) (by rfl)) (by rfl) (by rfl)) (@Yf _ _ _ (@Yx _ _ _ _ _ _ _ _ (@Yq _ _ _ _ _ _ _ _ YK (@Yv _ _ _ _ _ _ _ YD (pv 3) Yh (fun _ _=>rfl)) (pv 1) (Yo _)) (@Yf _ _ _ (@Yl _ _ _ _ (pv 2))) Ym)) (by intro _;rfl)) (@Yf _ _ _ Yy)),?_⟩;refine Yco (K:=g.K) (xs:=[.ref c0,.ref c1]) (fun i σ H'=>∃ o2 o3,σ=[some (.ref b),some (.str (mk k)),o2,o3]/\Ye H H'/\i<=k.toNat) (fun R r=>by walk_at "rd";exact r) ⟨_,_,rfl,.refl H,az _⟩ (fun i σ H' hi ⟨o2,o3,_,sm,_⟩=>aq.of (sm _ _ hP.b)) ?_ ?_
 ·rintro i v σ H' T hv ⟨o2,o3,rfl,sm,hno⟩ hT
  obtain ⟨j,c,p,rfl,rfl,hc⟩:∃ (j:Bool) (c:Addr) (p:V),i=j.toNat/\v = .ref c/\H c=some (.tup [.str (mk j),p]):=by
   match i,hv with
   | 0,hv=>exact ⟨false,c0,p0,rfl,(Λ hv).symm,hP.c0⟩
   | 1,hv=>exact ⟨true,c1,p1,rfl,(Λ hv).symm,hP.c1⟩
  have s2:=sm.trans (.aj hT (.tup [.int (j.toNat:Int),.ref c]));refine ⟨T,_,rfl,aq.of Yb,rfl,_,_,rfl,_,_,rfl,rfl,?_⟩;walk_at "rd";refine ⟨_,aq.of (s2 _ _ hc),_,Yk (j:=0) rfl,rfl,?_⟩;by_cases cc:j=k
  ·subst cc
   exact Xx rfl (q _ s2)
  ·refine Y5 (fun e=>cc ?_) ⟨s2,?_⟩
   ·cases j<;>cases k<;>first | rfl | exact absurd (V.str.inj e) Jm | exact absurd (V.str.inj e).symm Jm
   ·cases j<;>cases k<;>simp_all
 ·rintro σ H' ⟨o2,o3,rfl,sm,hno⟩
  cases k<;>simp at hno
inductive tX (vs:List V) (H:Hp) (Q:VK) (E_:XK):Prop
 | mk (lo:Int) (b c0 c1:Addr) (p0 p1:V) (k:Bool) (a:Addr) (u:V) (h0:vs=[.ref b,.ref a]) (h1:iz H lo b c0 c1 p0 p1) (h2:H a=some (.tup [.str (mk k),u])) (h3:∀ H',Ye H H'->Q (.bl true) H')
theorem Ya2 {k:Nat}  (R:g.Raw "has_mark" "has_mark" xX ["branches","value"]) (Zw:g.Fn k "branch_place" ["branches","mark"] (gJ)) (Z3:g.mg "isinstance"=none) (aA:g.mg "len"=none) (cG:g.mg "str"=none) (Z5:g.mg "tuple"=none):g.Fn (k+1) "has_mark" ["branches","value"] (tX):=by
 refine R.fn YaX (fun vs H Q E h=>by obtain ⟨lo,b,c0,c1,p0,p1,k,a,u,rfl,hP,ha,q⟩:=h;rfl) fun f_ cdv A outer s H vs Q E hr h=>?_
 obtain ⟨lo,b,c0,c1,p0,p1,k,a,u,rfl,hP,ha,q⟩:=h;refine ⟨_,(@Yd _ _ _ _ _ (@Yx _ _ _ _ _ _ _ _ (@Vj _ _ _ _ _ _ _ (@Wr _ _ _ _ (@YY _ _ _ (@YG _ _ _ _ _ _ _ _ _ _ Z3 YH (@Ya _ _ _ _ _ (pv 1) (@Ya _ _ _ _ _ (@Xk _ _ _ _ ("tuple") Z5 (by decide +kernel) (by rfl) (by rfl) (by decide) (by decide)) Yc (by rfl)) (by rfl)) (by decide +kernel) (by rfl) (by rfl) (by decide) (by decide) (by rfl) (by rfl)) (by intro _;rfl))) (@WG _ _ _ _ (@Yq _ _ _ _ _ _ _ _ DY (@YG _ _ _ _ _ _ _ _ _ _ aA YB (@Ya _ _ _ _ _ (pv 1) Yc (by rfl)) (by decide +kernel) (by rfl) (by rfl) (by decide) (by decide) (by rfl) (by rfl)) Yh (Yo _)))).pt (@Yf _ _ _ (@Yl _ _ _ _ WN)) Ym) (@Yf _ _ _ (@Yl _ _ _ _ (@X5 _ _ _ _ _ _ _ (@YG _ _ _ _ _ _ _ _ _ _ Z3 YH (@Ya _ _ _ _ _ (@Yv _ _ _ _ _ _ _ YD (pv 1) Yh (fun _ _=>rfl)) (@Ya _ _ _ _ _ (@Xk _ _ _ _ ("str") cG (by decide +kernel) (by rfl) (by rfl) (by decide) (by decide)) Yc (by rfl)) (by rfl)) (by decide +kernel) (by rfl) (by rfl) (by decide) (by decide) (by rfl) (by rfl)) (@X4 _ _ _ _ _ (@Xe _ _ _ _ _ _ _ _ VR (@Ys _ _ _ _ _ _ _ _ _ _ _ _ Zw hr (@Ya _ _ _ _ _ (pv 0) (@Ya _ _ _ _ _ (@Yv _ _ _ _ _ _ _ YD (pv 1) Yh (fun _ _=>rfl)) Yc (by rfl)) (by rfl)) (by omega) (by rfl) (by rfl) (by decide) (by rfl) (by rfl)) XF (Yo _))))))),?_⟩;refine Yp fun R rr=>?_
 walk_at "rd";refine ⟨_,rfl,_,.tup ha,true,rfl,?_⟩;walk_at "rd";refine ⟨_,.inr (aq.of ha),Y5 (by simp) (rr _ _ ?_)⟩;walk_at "rd";refine ⟨_,aq.of ha,_,Yk (j:=0) rfl,_,rfl,_,.str _,true,rfl,?_⟩;walk_at "rd";refine ⟨_,aq.of ha,_,Yk (j:=0) rfl,lo,b,c0,c1,p0,p1,k,rfl,hP,fun H' s=>?_⟩;rw [decide_eq_false (by intro z;cases z)];exact q H' s
theorem zG:(("ab":Str))=S [97,98]:=by decide +kernel
inductive tY (K:Κ) (vs:List V) (H:Hp) (Q:VK) (E_:XK):Prop
 | mk (lo:Int) (x:V) (s:Sh) (v:V) (d:Β) (h0:vs=[x,v]) (h1:DV H x (bR lo s)) (h2:DV H v d) (h3:gd lo s d) (h4:∀ H',Ye H H'->Q (.bl true) H')
theorem Ya3 {k:Nat}  (R:g.Raw "has_form" "has_form" xY ["shape","value"]) (ZL:g.Fn k "is_whole_number" ["thing"] (jL)) (mX:g.Fn k "has_mark" ["branches","value"] (tX)) (gK:g.mg "all"=none) (Z3:g.mg "isinstance"=none) (aA:g.mg "len"=none) (aH:g.mg "list"=none) (cG:g.mg "str"=none) (Z5:g.mg "tuple"=none) (iQ:g.jE "OF_ONE_PART" ([.str "many",.str "rising",.str "unlike"])):g.Fn (k+1) "has_form" ["shape","value"] (tY g.K):=by
 refine R.fn Jb (fun vs H Q E h=>by obtain ⟨lo,x,s,v,d,rfl,hS,hv,hg,q⟩:=h;rfl) fun f_ cdv A outer s H vs Q E hr h=>?_
 obtain ⟨lo,x,s,v,d,rfl,hS,hv,hg,q⟩:=h;refine ⟨_,(@Yd _ _ _ _ _ (@Yr _ _ (2) _ _ _ _ Jb.nd rfl (.inl rfl) (@Yv _ _ _ _ _ _ _ YD (pv 0) Yh (fun _ _=>rfl)) (by rfl) (by first | exact .inl rfl | exact .inr rfl | assumption)) (@Yd _ _ _ _ _ (@Yx _ _ _ _ _ _ _ _ (@Yq _ _ _ _ _ _ _ _ YK (pv 2) YC (Yo _)) (@Yf _ _ _ (@Yl _ _ _ _ (@X5 _ _ _ _ _ _ _ (@Ys _ _ _ _ _ _ _ _ _ _ _ _ ZL hr (@Ya _ _ _ _ _ (pv 1) Yc (by rfl)) (by omega) (by rfl) (by rfl) (by decide) (by rfl) (by rfl)) (@X4 _ _ _ _ _ (@Py _ _ _ _ _ _ _ _ _ _ _ _ QT QT (@Yv _ _ _ _ _ _ _ YD (pv 0) Yh (fun _ _=>rfl)) (pv 1) (@Yv _ _ _ _ _ _ _ YD (pv 0) Yh (fun _ _=>rfl)) (by with_unfolding_all rfl)))))) Ym) (@Yd _ _ _ _ _ (@Yx _ _ _ _ _ _ _ _ (@Yq _ _ _ _ _ _ _ _ YK (pv 2) YC (Yo _)) (@Yf _ _ _ (@Yl _ _ _ _ (@X5 _ _ _ _ _ _ _ (@YG _ _ _ _ _ _ _ _ _ _ Z3 YH (@Ya _ _ _ _ _ (pv 1) (@Ya _ _ _ _ _ (@Xk _ _ _ _ ("str") cG (by decide +kernel) (by rfl) (by rfl) (by decide) (by decide)) Yc (by rfl)) (by rfl)) (by decide +kernel) (by rfl) (by rfl) (by decide) (by decide) (by rfl) (by rfl)) (@X4 _ _ _ _ _ (@YG _ _ _ _ _ _ _ _ _ _ gK (U2 rfl) (@Ya _ _ _ _ _ (@Xj _ _ _ _ _ _ _ ([none,some 0]) ((["sign","shape"]:List Str)) _ (YE 0) _ _ (.own (.cap (i:=0) rfl rfl (by first | exact .inl rfl | exact .inr rfl) .nil)) rfl (@G4 _ _ _ _ (pv 1)) (fun cl C s₀ H₀ fp pn=>(@Yu _ _ (0) _ (show aI (["sign","shape"]:List Str) by decide +kernel) rfl (.inl rfl) (.inr rfl))) (fun cl C s₀ H₀ fp pn=>YV) (fun cl C s₀ H₀ fp pn=>(@Xe _ _ _ _ _ _ _ _ Px (pv 0) (@Yv _ _ _ _ _ _ _ (X1 (K:=g.K)) (pv 1) Yh (fun _ _=>rfl)) rfl)) (by intro x hx;simp at hx;first | (subst hx;exact .inl rfl) | (rcases hx with rfl | rfl<;>exact .inl rfl) | (rcases hx with rfl | rfl | rfl<;>exact .inl rfl) | (rcases hx with rfl | rfl | rfl | rfl<;>exact .inl rfl) | (rcases hx with rfl | rfl | rfl | rfl | rfl<;>exact .inl rfl)) (by rfl) (by decide) (by decide +kernel) (by intro _;rfl)) Yc (by rfl)) (by decide +kernel) (by rfl) (by rfl) (by decide) (by decide) (by rfl) (by rfl)))))) Ym) (@Yd _ _ _ _ _ (@Yx _ _ _ _ _ _ _ _ (@Yq _ _ _ _ _ _ _ _ YK (pv 2) YC (Yo _)) (@Yf _ _ _ (@Yl _ _ _ _ (@X5 _ _ _ _ _ _ _ (@YG _ _ _ _ _ _ _ _ _ _ Z3 YH (@Ya _ _ _ _ _ (pv 1) (@Ya _ _ _ _ _ (@Xk _ _ _ _ ("tuple") Z5 (by decide +kernel) (by rfl) (by rfl) (by decide) (by decide)) Yc (by rfl)) (by rfl)) (by decide +kernel) (by rfl) (by rfl) (by decide) (by decide) (by rfl) (by rfl)) (@X4 _ _ _ _ _ (@Xe _ _ _ _ _ _ _ _ YK (@YG _ _ _ _ _ _ _ _ _ _ aA YB (@Ya _ _ _ _ _ (pv 1) Yc (by rfl)) (by decide +kernel) (by rfl) (by rfl) (by decide) (by decide) (by rfl) (by rfl)) (@YG _ _ _ _ _ _ _ _ _ _ aA YB (@Ya _ _ _ _ _ (@Yv _ _ _ _ _ _ _ YD (pv 0) Yh (fun _ _=>rfl)) Yc (by rfl)) (by decide +kernel) (by rfl) (by rfl) (by decide) (by decide) (by rfl) (by rfl)) (Yo _)))))) Ym) (@Yd _ _ _ _ _ (@Yx _ _ _ _ _ _ _ _ (@Yq _ _ _ _ _ _ _ _ YK (pv 2) YC (Yo _)) (@Yf _ _ _ (@Yl _ _ _ _ (@Ys _ _ _ _ _ _ _ _ _ _ _ _ mX hr (@Ya _ _ _ _ _ (@Yv _ _ _ _ _ _ _ YD (pv 0) Yh (fun _ _=>rfl)) (@Ya _ _ _ _ _ (pv 1) Yc (by rfl)) (by rfl)) (by omega) (by rfl) (by rfl) (by decide) (by rfl) (by rfl)))) Ym) (@Yd _ _ _ _ _ (@Yx _ _ _ _ _ _ _ _ (@Yq _ _ _ _ _ _ _ _ YK (pv 2) YC (Yo _)) (@Yf _ _ _ Yy) Ym) (@Yd _ _ _ _ _ (@Yx _ _ _ _ _ _ _ _ (@Yq _ _ _ _ _ _ _ _ Qr (pv 2) (@Hs _ _ _ _ _ iQ (by rfl) (by rfl) (by decide)) rfl) (@Yf _ _ _ (@Yl _ _ _ _ (@YG _ _ _ _ _ _ _ _ _ _ Z3 YH (@Ya _ _ _ _ _ (pv 1) (@Ya _ _ _ _ _ (@Xk _ _ _ _ ("list") aH (by decide +kernel) (by rfl) (by rfl) (by decide) (by decide)) Yc (by rfl)) (by rfl)) (by decide +kernel) (by rfl) (by rfl) (by decide) (by decide) (by rfl) (by rfl)))) Ym) (@Yf _ _ _ Yy)))))))),?_⟩;refine Yp fun R rr=>?_
 walk_at "rd"
 cases s with
 | wh =>
  obtain ⟨a,rfl,ha⟩:=Q3 hS;obtain ⟨o,ho,rfl⟩:=hg
  cases hv.d8
  refine ⟨a,rfl,_,aq.of ha,_,Yk (j:=0) rfl,rr _ _ (cR rfl rfl ?_)⟩;walk_at "rd";refine ⟨_,rfl,true,rfl,Xx rfl ⟨_,aq.of ha,_,Yk (j:=1) rfl,_,rfl,Xx (by omega) ⟨_,aq.of ha,_,Yk (j:=2) rfl,_,rfl,?_⟩⟩⟩;rw [decide_eq_true (by omega)];exact q H (.refl _)
 | tx =>
  obtain ⟨a,rfl,ha⟩:=Q4 hS;obtain ⟨l,hl,hn,rfl⟩:=hg
  cases hv.bM.1
  refine ⟨a,rfl,_,aq.of ha,_,Yk (j:=0) rfl,rr _ _ (aR rfl (by decide +kernel) (cR rfl rfl ?_))⟩;walk_at "rd";refine ⟨_,rfl,_,.str _,true,rfl,Xx rfl ?_⟩;refine Ht (l:=l) ((l.map fun _=>true).map V.bl) (fun R r=>by walk_at "rd";exact r) (by simp) (by omega) ?_ ?_
  ·intro i c y H' hc hy sm R r
   rw [Ν,Ν,hc] at hy
   cases Λ hy
   walk_at "rd";refine ⟨_,aq.of (sm _ _ ha),_,Yk (j:=1) rfl,_,rfl,?_⟩;rw [zG,TJ,decide_eq_true (by have:=hl c (Τ hc);simp;omega)];exact r H' (.refl H')
  ·intro D H' hD sm hd
   refine ⟨D,rfl,_,ao.of hd,?_⟩;rw [show (l.map fun _=>true).all id=true by rw [List.all_map];exact List.all_eq_true.mpr fun _ _=>rfl];exact q H' sm
 | rw =>
  obtain ⟨a,b,rfl,ha,hb⟩:=UJ hS
  cases hg
  obtain ⟨c,rfl,hc⟩:=tV hv;refine ⟨a,rfl,_,aq.of ha,_,Yk (j:=0) rfl,rr _ _ (aR rfl (by decide +kernel) (aR rfl (by decide +kernel) (cR rfl rfl ?_)))⟩;walk_at "rd";exact ⟨_,rfl,_,.tup hc,true,rfl,XY ⟨_,.inr (aq.of hc),_,aq.of ha,_,Yk (j:=1) rfl,_,rfl,_,.inr (aq.of hb),q H (.refl _)⟩⟩
 | pk =>
  obtain ⟨a,b,c0,c1,p0,p1,rfl,ha,hP⟩:=UK hS;obtain ⟨k,a',u,e,rfl,pv⟩:=Jo hv hg;refine ⟨a,rfl,_,aq.of ha,_,Yk (j:=0) rfl,rr _ _ (aR rfl (by decide +kernel) (aR rfl (by decide +kernel) (aR rfl (by decide +kernel) (cR rfl rfl ?_))))⟩;walk_at "rd";exact ⟨_,aq.of ha,_,Yk (j:=1) rfl,lo,b,c0,c1,p0,p1,k,a',u,rfl,hP,pv.ha,q⟩
 | my p =>
  obtain ⟨a,w,rfl,ha,hw⟩:=Q5 hS;obtain ⟨ds,hn,hd,rfl⟩:=hg;obtain ⟨D,us,rfl,hD,_,_⟩:=hv.bD;refine ⟨a,rfl,_,aq.of ha,_,Yk (j:=0) rfl,rr _ _ (aR rfl (by decide +kernel) (aR rfl (by decide +kernel) (aR rfl (by decide +kernel) (aR rfl (by decide +kernel) (aR rfl (by decide +kernel) ?_)))))⟩;walk_at "rd";exact fun c hc=>⟨_,.inr hc,rfl,rfl,Xx (by decide +kernel) ⟨_,rfl,_,.lst hD,true,rfl,q H (.refl _)⟩⟩
inductive F2 {α β:Type} (R:α->β->Prop):List α->List β->Prop
 | nil:F2 R [] []
 | cons {a:α} {b:β} {as:List α} {bs:List β} (h:R a b) (t:F2 R as bs):F2 R (a::as) (b::bs)
section
 variable {α β:Type} {R:α->β->Prop}
theorem F2.len:∀ {as:List α} {bs:List β},F2 R as bs->as.length=bs.length
 | _,_,.nil=>rfl
 | _,_,.cons _ t=>by rw [am,am,t.len]
theorem F2.of:∀ {as:List α} {bs:List β},as.length=bs.length->(∀ (i:Nat) a b,as[i]?=some a->bs[i]?=some b->R a b)->F2 R as bs
 | [],[],_,_ => .nil
 | a::as,b::bs,h,k => .cons (k 0 a b rfl rfl) (F2.of (Nat.succ.inj h) fun i x y e1 e2=>k (i+1) x y e1 e2)
 | [],_::_,h,_=>by cases h
 | _::_,[],h,_=>by cases h
theorem F2.get:∀ {as:List α} {bs:List β},F2 R as bs->∀ (i:Nat) a b,as[i]?=some a->bs[i]?=some b->R a b
 | _,_,.nil,i,a,b,e,_=>by cases e
 | _,_,.cons h t,0,a,b,e1,e2=>by cases Λ e1;cases Λ e2;exact h
 | _,_,.cons h t,i+1,a,b,e1,e2=>t.get i a b e1 e2
theorem F2.app:∀ {as:List α} {bs:List β} {cs:List α} {ds:List β},F2 R as bs->F2 R cs ds->F2 R (as++cs) (bs++ds)
 | _,_,_,_,.nil,h=>h
 | _,_,_,_,.cons h t,k => .cons h (t.app k)
theorem F2.take:∀ {as:List α} {bs:List β} (n:Nat),F2 R as bs->F2 R (as.take n) (bs.take n)
 | _,_,0,_ => .nil
 | _,_,_+1,.nil => .nil
 | _,_,n+1,.cons h t => .cons h (t.take n)
theorem F2.drop:∀ {as:List α} {bs:List β} (n:Nat),F2 R as bs->F2 R (as.drop n) (bs.drop n)
 | _,_,0,h=>h
 | _,_,_+1,.nil => .nil
 | _,_,n+1,.cons h t=>t.drop n
theorem F2.flat:∀ {as:List (List α)} {bs:List (List β)},F2 (F2 R) as bs->F2 R as.flatten bs.flatten
 | _,_,.nil => .nil
 | _,_,.cons h t=>h.app t.flat
theorem F2.map {α' β':Type} {R':α'->β'->Prop} {f:α->α'} {g:β->β'} (k:∀ a b,R a b->R' (f a) (g b)):∀ {as:List α} {bs:List β},F2 R as bs->F2 R' (as.map f) (bs.map g)
 | _,_,.nil => .nil
 | _,_,.cons h t => .cons (k _ _ h) (t.map k)
theorem F2.imp {R':α->β->Prop} (k:∀ a b,R a b->R' a b):∀ {as:List α} {bs:List β},F2 R as bs->F2 R' as bs
 | _,_,.nil => .nil
 | _,_,.cons h t => .cons (k _ _ h) (t.imp k)
theorem F2.rng {f:Nat->α} {g:Nat->β}:∀ {l:List Nat},(∀ i∈l,R (f i) (g i))->F2 R (l.map f) (l.map g)
 | [],_ => .nil
 | i::l,h => .cons (h i (.head _)) (F2.rng fun j hj=>h j (.tail _ hj))
theorem F2.getD:∀ {as:List (List α)} {bs:List (List β)} (i:Nat),F2 (F2 R) as bs->F2 R (as.getD i []) (bs.getD i [])
 | _,_,_,.nil => .nil
 | _,_,0,.cons h t=>h
 | _,_,i+1,.cons h t=>t.getD i
end
inductive Wn (lo:Int):Sh->Β->List (Sh×Β)->Prop
 | wh (o:Nat) (h:o<=7):Wn lo .wh (.int (lo+o)) []
 | tx (l:List Nat) (h:∀ c∈l,c=97\/c=98) (n:l.length<=4):Wn lo .tx (.str (S l)) []
 | rw:Wn lo .rw (.tuple []) []
 | pk (k:Bool) (e:Β) (g:gd lo (gH k) e) (z:sz lo .pk (.tuple [.str (mk k),e])=sz lo (gH k) e):Wn lo .pk (.tuple [.str (mk k),e]) [(gH k,e)]
 | my (p:Sh) (ds:List Β) (n:ds.length<=4) (g:∀ e∈ds,gd lo p e):Wn lo (.my p) (.list ds) (ds.map fun e=>(p,e))
theorem Jp {lo:Int} {s:Sh} {d:Β} (h:gd lo s d):∃ L,Wn lo s d L:=by
 cases s with
 | wh=>obtain ⟨o,ho,rfl⟩:=h;exact ⟨_,.wh o ho⟩
 | tx=>obtain ⟨l,h1,h2,rfl⟩:=h;exact ⟨_,.tx l h1 h2⟩
 | rw=>cases h;exact ⟨_,.rw⟩
 | pk =>
  rcases h with rfl | ⟨o,ho,rfl⟩
  ·exact ⟨_,.pk false _ rfl rfl⟩
  ·exact ⟨_,.pk true _ ⟨o,ho,rfl⟩ rfl⟩
 | my p=>obtain ⟨ds,h1,h2,rfl⟩:=h;exact ⟨_,.my p ds h1 h2⟩
theorem Wn.len {lo:Int} {s:Sh} {d:Β} {L:List (Sh×Β)} (h:Wn lo s d L):L.length<=4:=by
 cases h with
 | my p ds n g=>rw [Ε];exact n
 | _=>simp
theorem Wn.sub {lo:Int} {s:Sh} {d:Β} {L:List (Sh×Β)} (h:Wn lo s d L):∀ w∈L,gd lo w.1 w.2/\aQ w.1<aQ s:=by
 intro w hw
 cases h with
 | pk k e g z =>
  cases ς.mp hw
  exact ⟨g,by cases k<;>simp [aQ,gH]⟩
 | my p ds n g =>
  obtain ⟨e,he,rfl⟩:=aw.mp hw;exact ⟨g e he,by simp [aQ]⟩
 | _=>cases hw
theorem Wn.gd {lo:Int} {s:Sh} {d:Β} {L:List (Sh×Β)} (h:Wn lo s d L):gd lo s d:=by
 cases h with
 | wh o h=>exact ⟨o,h,rfl⟩
 | tx l h n=>exact ⟨l,h,n,rfl⟩
 | rw=>rfl
 | pk k e g z =>
  cases k with
  | false=>cases (show e=_ from g);exact .inl rfl
  | true=>obtain ⟨o,ho,rfl⟩:=g;exact .inr ⟨o,ho,rfl⟩
 | my p ds n g=>exact ⟨ds,n,g,rfl⟩
def iR (lo:Int) (G H:Hp) (ts:List Addr) (L:List (Sh×Β)):Prop:=ts.length=L.length/\∀ (i:Nat) t w,ts[i]?=some t->L[i]?=some w->∃ x u,H t=some (.tup [x,u])/\DV G x (bR lo w.1)/\DV G u w.2
def Tp (H H':Hp):Prop:=∀ b xs,H b=some (.tup xs)->H' b=some (.tup xs)
theorem Ygl {H H':Hp} (k:Ye H H'):Tp H H':=fun _ _ e=>k _ _ e
theorem zH {H:Hp} {p:Addr} {xs ys:List V} (h:H p=some (.lst xs)):Tp H (upd H p (.lst ys)):=fun b zs e=>by rw [Yg (YI e h (by intro z;cases z))];exact e
theorem Tp.trans {H H1 H2:Hp} (a:Tp H H1) (b:Tp H1 H2):Tp H H2:=fun c o e=>b c o (a c o e)
theorem iR.tp {lo:Int} {G H H':Hp} (k:Tp H H') {ts:List Addr} {L:List (Sh×Β)} (h:iR lo G H ts L):iR lo G H' ts L:=⟨h.1,fun i t w e1 e2=>by
 obtain ⟨x,u,h1,h2⟩:=h.2 i t w e1 e2;exact ⟨x,u,k _ _ h1,h2⟩⟩
inductive zJ (K:Κ) (vs:List V) (H:Hp) (Q:VK) (E_:XK):Prop
 | mk (B:V) (lo:Int) (x v:V) (s:Sh) (d:Β) (L:List (Sh×Β)) (G:Hp) (h0:vs=[B,x,v]) (h1:Ye G H) (h2:DV G x (bR lo s)) (h3:DV G v d) (h4:Wn lo s d L) (h5:∀ D ts H',Ye H H'->H D=none->H' D=some (.lst (ts.map V.ref))->iR lo G H' ts L->Q (.ref D) H')
theorem Z3q {k:Nat}  (R:g.Raw "things_within" "things_within" xZ ["book","shape","value"]) (Zw:g.Fn k "branch_place" ["branches","mark"] (gJ)) (aH:g.mg "list"=none) (gM:g.mg "zip"=none) (iQ:g.jE "OF_ONE_PART" ([.str "many",.str "rising",.str "unlike"])):g.Fn (k+1) "things_within" ["book","shape","value"] (zJ g.K):=by
 refine R.fn Jc (fun vs H Q E h=>by obtain ⟨B,lo,x,v,s,d,L,G,rfl,sg,hS,hv,hw,q⟩:=h;rfl) fun f_ cdv A outer s H vs Q E hr h=>?_
 obtain ⟨B,lo,x,v,s,d,L,G,rfl,sg,hS,hv,hw,q⟩:=h;refine ⟨_,(@Yd _ _ _ _ _ (@Yr _ _ (3) _ _ _ _ Jc.nd rfl (.inl rfl) (@Yv _ _ _ _ _ _ _ YD (pv 1) Yh (fun _ _=>rfl)) (by rfl) (by first | exact .inl rfl | exact .inr rfl | assumption)) (@Yd _ _ _ _ _ (@Yx _ _ _ _ _ _ _ _ (@Yq _ _ _ _ _ _ _ _ YK (pv 3) YC (Yo _)) (@Yf _ _ _ (@Yl _ _ _ _ (@Yax _ _ _ _ _ _ _ _ rfl aH rfl gM (@Ya _ _ _ _ _ (@Yv _ _ _ _ _ _ _ YD (pv 1) Yh (fun _ _=>rfl)) (@Ya _ _ _ _ _ (pv 2) Yc (by rfl)) (by rfl)) (by rfl) (by rfl) (by rfl)))) Ym) (@Yd _ _ _ _ _ (@Yx _ _ _ _ _ _ _ _ (@Yq _ _ _ _ _ _ _ _ YK (pv 3) YC (Yo _)) (@Yf _ _ _ (@Yl _ _ _ _ (@YU _ _ _ _ (@Ya _ _ _ _ _ (@YZ _ _ _ _ _ (@Ya _ _ _ _ _ (@Yv _ _ _ _ _ _ _ YD (@Yv _ _ _ _ _ _ _ YD (@Yv _ _ _ _ _ _ _ YD (pv 1) Yh (fun _ _=>rfl)) (@Ys _ _ _ _ _ _ _ _ _ _ _ _ Zw hr (@Ya _ _ _ _ _ (@Yv _ _ _ _ _ _ _ YD (pv 1) Yh (fun _ _=>rfl)) (@Ya _ _ _ _ _ (@Yv _ _ _ _ _ _ _ YD (pv 2) Yh (fun _ _=>rfl)) Yc (by rfl)) (by rfl)) (by omega) (by rfl) (by rfl) (by decide) (by rfl) (by rfl)) (fun _ _=>rfl)) Yh (fun _ _=>rfl)) (@Ya _ _ _ _ _ (@Yv _ _ _ _ _ _ _ YD (pv 2) Yh (fun _ _=>rfl)) Yc (by rfl)) (by rfl))) Yc (Xh _ _ _ _ _))))) Ym) (@Yd _ _ _ _ _ (@Yx _ _ _ _ _ _ _ _ (@Yq _ _ _ _ _ _ _ _ YK (pv 3) YC (Yo _)) (@Yf _ _ _ Yy) Ym) (@Yd _ _ _ _ _ (@Yx _ _ _ _ _ _ _ _ (@Vj _ _ _ _ _ _ _ (@Yq _ _ _ _ _ _ _ _ YK (pv 3) YC (Yo _)) (@WG _ _ _ _ (@Yq _ _ _ _ _ _ _ _ Qr (pv 3) (@Hs _ _ _ _ _ iQ (by rfl) (by rfl) (by decide)) rfl))).pt (@Yf _ _ _ (@Yl _ _ _ _ (@Xj _ _ _ _ _ _ _ ([none,some 1]) ((["thing","shape"]:List Str)) _ (YE 0) _ _ (.own (.cap (i:=1) rfl rfl (by first | exact .inl rfl | exact .inr rfl) .nil)) rfl (@YW _ _ _ _ (pv 2)) (fun cl C s₀ H₀ fp pn=>(@Yu _ _ (0) _ (show aI (["thing","shape"]:List Str) by decide +kernel) rfl (.inl rfl) (.inr rfl))) (fun cl C s₀ H₀ fp pn=>YV) (fun cl C s₀ H₀ fp pn=>(@YZ _ _ _ _ _ (@Ya _ _ _ _ _ (@Yv _ _ _ _ _ _ _ (X1 (K:=g.K)) (pv 1) Yh (fun _ _=>rfl)) (@Ya _ _ _ _ _ (pv 0) Yc (by rfl)) (by rfl)))) (by intro x hx;simp at hx;first | (subst hx;exact .inl rfl) | (rcases hx with rfl | rfl<;>exact .inl rfl) | (rcases hx with rfl | rfl | rfl<;>exact .inl rfl) | (rcases hx with rfl | rfl | rfl | rfl<;>exact .inl rfl) | (rcases hx with rfl | rfl | rfl | rfl | rfl<;>exact .inl rfl)) (by rfl) (by decide) (by decide +kernel) (by intro _;rfl)))) Ym) (@Yf _ _ _ (@Yl _ _ _ _ (@YU _ _ _ _ Yc)))))))),?_⟩;refine Yp fun R rr=>?_
 walk_at "rd"
 cases hw with
 | wh o ho =>
  obtain ⟨a,rfl,ha⟩:=Q3 hS;refine ⟨a,rfl,_,aq.of (sg _ _ ha),_,Yk (j:=0) rfl,rr _ _ (aR rfl (by decide +kernel) (aR rfl (by decide +kernel) (aR rfl (by decide +kernel) ?_)))⟩;walk_at "rd";refine Y5 (by decide +kernel) fun c hc=>⟨_,.inr hc,rfl,rfl,Y5 (by decide +kernel) ⟨few (by decide),fun p hp=>?_⟩⟩
  exact q p [] _ (.aj hp _) hp Yb ⟨rfl,fun i t w h=>by cases h⟩
 | tx l h n =>
  obtain ⟨a,rfl,ha⟩:=Q4 hS;refine ⟨a,rfl,_,aq.of (sg _ _ ha),_,Yk (j:=0) rfl,rr _ _ (aR rfl (by decide +kernel) (aR rfl (by decide +kernel) (aR rfl (by decide +kernel) ?_)))⟩;walk_at "rd";refine Y5 (by decide +kernel) fun c hc=>⟨_,.inr hc,rfl,rfl,Y5 (by decide +kernel) ⟨few (by decide),fun p hp=>?_⟩⟩
  exact q p [] _ (.aj hp _) hp Yb ⟨rfl,fun i t w h=>by cases h⟩
 | rw =>
  obtain ⟨a,b,rfl,ha,hb⟩:=UJ hS;obtain ⟨c,rfl,hc⟩:=tV hv;refine ⟨a,rfl,_,aq.of (sg _ _ ha),_,Yk (j:=0) rfl,rr _ _ (cR rfl rfl ?_)⟩;walk_at "rd";unfold xQ;walk_at "rd";exact ⟨_,aq.of (sg _ _ ha),_,Yk (j:=1) rfl,_,rfl,aq.of (sg _ _ hb),aq.of (sg _ _ hc),fun l gl=>q l [] _ (.aj gl _) gl Yb ⟨rfl,fun i t w h=>by cases h⟩⟩
 | pk k e gg z =>
  obtain ⟨a,b,c0,c1,p0,p1,rfl,ha,hP⟩:=UK hS;obtain ⟨a',m,u,rfl,ha',h5,h6⟩:=dJ hv
  cases h5.bM.1
  refine ⟨a,rfl,_,aq.of (sg _ _ ha),_,Yk (j:=0) rfl,rr _ _ (aR rfl (by decide +kernel) (cR rfl rfl ?_))⟩;walk_at "rd";have hP':=hP.keep sg;refine ⟨_,aq.of (sg _ _ ha),_,Yk (j:=1) rfl,_,aq.of (sg _ _ ha),_,Yk (j:=1) rfl,_,aq.of (sg _ _ ha'),_,Yk (j:=0) rfl,lo,b,c0,c1,p0,p1,k,rfl,hP',fun H1 s1=>?_⟩;obtain ⟨c,p,g1,g2,g3⟩:∃ c p,([.ref c0,.ref c1]:List V)[k.toNat]?=some (.ref c)/\G c=some (.tup [.str (mk k),p])/\DV G p (bR lo (gH k)):=by
   cases k with
   | false=>exact ⟨c0,p0,rfl,hP.c0,hP.p0⟩
   | true=>exact ⟨c1,p1,rfl,hP.c1,hP.p1⟩
  refine ⟨b,rfl,_,rfl,_,aq.of (s1 _ _ hP'.b),_,Yk g1,c,rfl,_,aq.of (s1 _ _ (sg _ _ g2)),_,Yk (j:=1) rfl,_,aq.of (s1 _ _ (sg _ _ ha')),_,Yk (j:=1) rfl,few (by decide),fun X gX=>⟨few (by decide),fun L gL=>?_⟩⟩;have sX:=Ye.aj gX (.tup [p,u]);have sL:=Ye.aj gL (.lst [.ref X]);have s3:=(s1.trans sX).trans sL;refine q L [X] _ s3 ((s1.trans sX).free gL) Yb ⟨rfl,fun i t w h1 h2=>?_⟩
  cases i with
  | zero =>
   cases Λ h1
   cases Λ h2
   exact ⟨p,u,sL _ _ Yb,g3,h6⟩
  | succ i=>cases h1
 | my p ds n gg =>
  obtain ⟨a,w,rfl,ha,hw⟩:=Q5 hS;obtain ⟨D,us,rfl,hD,_,hds⟩:=hv.bD;have ul:=hds.length;refine ⟨a,rfl,_,aq.of (sg _ _ ha),_,Yk (j:=0) rfl,rr _ _ (aR rfl (by decide +kernel) (aR rfl (by decide +kernel) (aR rfl (by decide +kernel) ?_)))⟩;walk_at "rd";refine Y5 (by decide +kernel) fun c hc=>⟨_,.inr hc,rfl,rfl,Xx (by decide +kernel) ?_⟩
  refine T3 (K:=g.K) (xs:=us) (us.map fun u=>[w,u]) (fun R r=>by walk_at "rd";exact r D H (.refl _) (ao.of (sg _ _ hD))) (by simp) (by omega) ?_ ?_
  ·intro i u y H' hu hy sm R r
   rw [Ν,hu] at hy
   cases Λ hy
   walk_at "rd";exact ⟨_,aq.of (sm _ _ (sg _ _ ha)),_,Yk (j:=1) rfl,few (by decide),fun p hp=>r p _ (.aj hp _) Yb⟩
  ·intro D2 as H' gD sm hd hal hat
   refine q D2 as H' sm gD hd ⟨by rw [Ε];omega,fun i t w' h1' h2'=>?_⟩;rw [Ν] at h2'
   obtain ⟨e,he,rfl⟩:=ο.mp h2';have hi:=(Ι.mp he).1;have hu:us[i]?=some (us[i]'(by omega)):=Χ _;exact ⟨w,_,hat i t _ h1' (by rw [Ν,hu];rfl),hw,XQ hds hu he⟩
def Ky (H:Hp) (v:V) (n:Nat):Prop:=∃ (k:Addr) (r:List V),v = .ref k/\H k=some (.tup (.int (n:Nat)::r))
theorem Ky.tp {H H':Hp} (t:Tp H H') {v:V} {n:Nat} (h:Ky H v n):Ky H' v n:=by
 obtain ⟨k,r,e,h⟩:=h;exact ⟨k,r,e,t _ _ h⟩
inductive jM (K:Κ) (vs:List V) (H:Hp) (Q:VK) (E_:XK):Prop
 | mk (b:Addr) (ks:List V) (ns:List Nat) (h0:vs=[.ref b]) (h1:H b=some (.lst ks)) (h2:F2 (Ky H) ks ns) (h3:ks.length<=100) (h4:∀ H',Ye H H'->Q (.int (ns.sum:Nat)) H')
theorem Z3z  (R:g.Raw "sum_of_sizes" "sum_of_sizes" yc ["keys"]) (cZ:g.mg "sum"=none):g.Fn (1) "sum_of_sizes" ["keys"] (jM g.K):=by
 refine R.fn Z3w (fun vs H Q E h=>by obtain ⟨b,ks,ns,rfl,hb,hk,hl,q⟩:=h;rfl) fun f_ cdv A outer s H vs Q E hr h=>?_
 obtain ⟨b,ks,ns,rfl,hb,hk,hl,q⟩:=h;refine ⟨_,(@Yf _ _ _ (@Yl _ _ _ _ (@YG _ _ _ _ _ _ _ _ _ _ cZ Wv (@Ya _ _ _ _ _ (@Xj _ _ _ _ _ _ _ ([none]) ((["key"]:List Str)) _ (YE 0) _ _ (.own .nil) rfl (@YW _ _ _ _ (pv 0)) (fun cl C s₀ H₀ fp pn=>(@Yu _ _ (0) _ (show aI (["key"]:List Str) by decide +kernel) rfl (.inl rfl) (.inr rfl))) (fun cl C s₀ H₀ fp pn=>YV) (fun cl C s₀ H₀ fp pn=>(@Yv _ _ _ _ _ _ _ (X1 (K:=g.K)) (pv 0) Yh (fun _ _=>rfl))) (by intro x hx;simp at hx) (by rfl) (by decide) (by decide +kernel) (by intro _;rfl)) Yc (by rfl)) (by decide +kernel) (by rfl) (by rfl) (by decide) (by decide) (by rfl) (by rfl)))),?_⟩;walk_at "rd";have nl:=hk.len;refine X0 (K:=g.K) (xs:=ks) ((ns.map fun n=>((n:Nat):Int)).map V.int) (fun R r=>by walk_at "rd";exact r b H (.refl _) (ao.of hb)) (by simp [nl]) (by omega) ?_ ?_
 ·intro i x y H' hx hy sm R r
  rw [Ν,Ν] at hy
  obtain ⟨z,hz,rfl⟩:=ο.mp hy;obtain ⟨n,hn,rfl⟩:=ο.mp hz;obtain ⟨k,r0,rfl,e⟩:=hk.get i x n hx hn;walk_at "rd";exact ⟨_,aq.of (sm _ _ e),_,Yk (j:=0) rfl,r H' (.refl _)⟩
 ·intro D H' hD sm hd
  refine ⟨D,rfl,_,ao.of hd,?_⟩;have:∀ ns:List Nat,(ns.map fun n=>((n:Nat):Int)).sum=((ns.sum:Nat):Int):=fun ns=>by
   induction ns with
   | nil=>rfl
   | cons a l ih=>rw [af,gy,ih,gy,cK]
  rw [this];exact q H' sm
inductive tZ (K:Κ) (vs:List V) (H:Hp) (Q:VK) (E_:XK):Prop
 | mk (a b:Addr) (w:V) (ks:List V) (ns:List Nat) (h0:vs=[.ref a,.ref b]) (h1:H a=some (.tup [.str "many",w])) (h2:H b=some (.lst ks)) (h3:F2 (Ky H) ks ns) (h4:ks.length<=100) (h5:∀ v H',Ye H H'->Ky H' v (ks.length+ns.sum)->Q v H')
theorem Ya4 {k:Nat}  (R:g.Raw "list_key" "list_key" yd ["shape","keys"]) (zK:g.Fn k "sum_of_sizes" ["keys"] (jM g.K)) (aA:g.mg "len"=none) (Z5:g.mg "tuple"=none):g.Fn (k+1) "list_key" ["shape","keys"] (tZ g.K):=by
 refine R.fn yg (fun vs H Q E h=>by obtain ⟨a,b,w,ks,ns,rfl,ha,hb,hk,kl,q⟩:=h;rfl) fun f_ cdv A outer s H vs Q E hr h=>?_
 obtain ⟨a,b,w,ks,ns,rfl,ha,hb,hk,kl,q⟩:=h;refine ⟨_,(@Yd _ _ _ _ _ (@Yr _ _ (2) _ _ _ _ yg.nd rfl (.inl rfl) (@Yv _ _ _ _ _ _ _ YD (pv 0) Yh (fun _ _=>rfl)) (by rfl) (by first | exact .inl rfl | exact .inr rfl | assumption)) (@Yd _ _ _ _ _ (@Yr _ _ (3) _ _ _ _ yg.nd rfl (.inl rfl) (@Yn _ _ _ _ _ _ _ _ YT (@YG _ _ _ _ _ _ _ _ _ _ aA YB (@Ya _ _ _ _ _ (pv 1) Yc (by rfl)) (by decide +kernel) (by rfl) (by rfl) (by decide) (by decide) (by rfl) (by rfl)) (@Ys _ _ _ _ _ _ _ _ _ _ _ _ zK hr (@Ya _ _ _ _ _ (pv 1) Yc (by rfl)) (by omega) (by rfl) (by rfl) (by decide) (by rfl) (by rfl))) (by rfl) (by first | exact .inl rfl | exact .inr rfl | assumption)) (@Yd _ _ _ _ _ (@Yx _ _ _ _ _ _ _ _ (@Yq _ _ _ _ _ _ _ _ YK (pv 2) YC (Yo _)) (@Yf _ _ _ (@Yl _ _ _ _ (@Wp _ _ _ _ _ _ _ _ _ _ Z5 Xn (@Ya _ _ _ _ _ (@Yn _ _ _ _ _ _ _ _ XG (@YU _ _ _ _ (@Ya _ _ _ _ _ (pv 3) Yc (by rfl))) (pv 1)) Yc (by rfl)) (by decide +kernel) (by rfl) (by rfl) (by decide) (by decide) (by rfl) (by rfl)))) Ym) (@Yd _ _ _ _ _ Yy (@Yd _ _ _ _ _ Yy (@Yf _ _ _ Yy)))))),?_⟩;refine Yp fun R rr=>?_
 walk_at "rd";refine ⟨_,aq.of ha,_,Yk (j:=0) rfl,rr _ _ (Yp fun R rr=>?_)⟩;walk_at "rd";refine ⟨_,.inl (ao.of hb),b,ks,ns,rfl,hb,hk,kl,fun H1 s1=>⟨_,rfl,rr _ _ ?_⟩⟩;rw [<- cK];refine cR rfl rfl ?_;walk_at "rd";refine ⟨few (by decide),fun X gX=>?_⟩;have sX:=Ye.aj gX (.lst [.int ((ks.length+ns.sum:Nat):Int)]);refine ⟨_,Yb,_,sX _ _ (s1 _ _ hb),few (by simp;omega),fun Y gY=>⟨_,.inl ⟨ao.of Yb,fun Z gZ=>?_⟩⟩⟩;exact q _ _ (((s1.trans sX).trans (.aj gY _)).trans (.aj gZ _)) ⟨Z,_,rfl,Yb⟩
inductive uc (K:Κ) (vs:List V) (H:Hp) (Q:VK) (E_:XK):Prop
 | mk (lo:Int) (x v:V) (s:Sh) (d:Β) (L:List (Sh×Β)) (b:Addr) (ks:List V) (h0:vs=[x,v,.ref b]) (h1:DV H x (bR lo s)) (h2:DV H v d) (h3:Wn lo s d L) (h4:H b=some (.lst ks)) (h5:F2 (Ky H) ks (L.map fun w=>sz lo w.1 w.2)) (h6:∀ k H',Ye H H'->Ky H' k (sz lo s d)->Q k H')
theorem Ya5 {k:Nat}  (R:g.Raw "key_made" "key_made" yh ["shape","value","keys"]) (Zw:g.Fn k "branch_place" ["branches","mark"] (gJ)) (zK:g.Fn k "sum_of_sizes" ["keys"] (jM g.K)) (mY:g.Fn k "list_key" ["shape","keys"] (tZ g.K)) (aA:g.mg "len"=none) (Z5:g.mg "tuple"=none):g.Fn (k+1) "key_made" ["shape","value","keys"] (uc g.K):=by
 refine R.fn Jd (fun vs H Q E h=>by obtain ⟨lo,x,v,s,d,L,b,ks,rfl,hS,hv,hw,hb,f2,q⟩:=h;rfl) fun f_ cdv A outer s H vs Q E hr h=>?_
 obtain ⟨lo,x,v,s,d,L,b,ks,rfl,hS,hv,hw,hb,f2,q⟩:=h;refine ⟨_,(@Yd _ _ _ _ _ (@Yr _ _ (3) _ _ _ _ Jd.nd rfl (.inl rfl) (@Yv _ _ _ _ _ _ _ YD (pv 0) Yh (fun _ _=>rfl)) (by rfl) (by first | exact .inl rfl | exact .inr rfl | assumption)) (@Yd _ _ _ _ _ (@Yx _ _ _ _ _ _ _ _ (@Yq _ _ _ _ _ _ _ _ YK (pv 3) YC (Yo _)) (@Yf _ _ _ (@Yl _ _ _ _ (@YZ _ _ _ _ _ (@Ya _ _ _ _ _ (@RL _ _ _ _ _ _ _ _ _ F.plainAttrs_int F.slot_int_bit_length F.type_int_bit_length Tv (@Yn _ _ _ _ _ _ _ _ Vc (pv 1) (@Yv _ _ _ _ _ _ _ YD (pv 0) Yh (fun _ _=>rfl))) (by rfl) (by rfl)) (@Ya _ _ _ _ _ (pv 1) Yc (by rfl)) (by rfl))))) Ym) (@Yd _ _ _ _ _ (@Yx _ _ _ _ _ _ _ _ (@Yq _ _ _ _ _ _ _ _ YK (pv 3) YC (Yo _)) (@Yf _ _ _ (@Yl _ _ _ _ (@Wp _ _ _ _ _ _ _ _ _ _ Z5 Xn (@Ya _ _ _ _ _ (@Yn _ _ _ _ _ _ _ _ XG (@YU _ _ _ _ (@Ya _ _ _ _ _ (@YG _ _ _ _ _ _ _ _ _ _ aA WI (@Ya _ _ _ _ _ (pv 1) Yc (by rfl)) (by decide +kernel) (by rfl) (by rfl) (by decide) (by decide) (by rfl) (by rfl)) Yc (by rfl))) (@Xj _ _ _ _ _ _ _ ([none,some 0]) ((["sign","shape"]:List Str)) _ (YE 0) _ _ (.own (.cap (i:=0) rfl rfl (by first | exact .inl rfl | exact .inr rfl) .nil)) rfl (@G4 _ _ _ _ (pv 1)) (fun cl C s₀ H₀ fp pn=>(@Yu _ _ (0) _ (show aI (["sign","shape"]:List Str) by decide +kernel) rfl (.inl rfl) (.inr rfl))) (fun cl C s₀ H₀ fp pn=>YV) (fun cl C s₀ H₀ fp pn=>(@TF _ (g.K) _ _ _ _ _ _ _ _ _ _ _ F.plainAttrs_str F.slot_str_find F.type_str_find Tw (@Yv _ _ _ _ _ _ _ (X1 (K:=g.K)) (pv 1) Yh (fun _ _=>rfl)) (@Ya _ _ _ _ _ (pv 0) Yc (by rfl)) (by rfl) (by rfl) (by rfl) (by rfl) (by rfl) (by rfl))) (by intro x hx;simp at hx;first | (subst hx;exact .inl rfl) | (rcases hx with rfl | rfl<;>exact .inl rfl) | (rcases hx with rfl | rfl | rfl<;>exact .inl rfl) | (rcases hx with rfl | rfl | rfl | rfl<;>exact .inl rfl) | (rcases hx with rfl | rfl | rfl | rfl | rfl<;>exact .inl rfl)) (by rfl) (by decide) (by decide +kernel) (by intro _;rfl))) Yc (by rfl)) (by decide +kernel) (by rfl) (by rfl) (by decide) (by decide) (by rfl) (by rfl)))) Ym) (@Yd _ _ _ _ _ (@Yx _ _ _ _ _ _ _ _ (@Yq _ _ _ _ _ _ _ _ YK (pv 3) YC (Yo _)) (@Yf _ _ _ (@Yl _ _ _ _ (@Wp _ _ _ _ _ _ _ _ _ _ Z5 Xn (@Ya _ _ _ _ _ (@Yn _ _ _ _ _ _ _ _ XG (@YU _ _ _ _ (@Ya _ _ _ _ _ (@Ys _ _ _ _ _ _ _ _ _ _ _ _ zK hr (@Ya _ _ _ _ _ (pv 2) Yc (by rfl)) (by omega) (by rfl) (by rfl) (by decide) (by rfl) (by rfl)) Yc (by rfl))) (pv 2)) Yc (by rfl)) (by decide +kernel) (by rfl) (by rfl) (by decide) (by decide) (by rfl) (by rfl)))) Ym) (@Yd _ _ _ _ _ (@Yx _ _ _ _ _ _ _ _ (@Yq _ _ _ _ _ _ _ _ YK (pv 3) YC (Yo _)) (@Yf _ _ _ (@Yl _ _ _ _ (@YZ _ _ _ _ _ (@Ya _ _ _ _ _ (@Yv _ _ _ _ _ _ _ YD (@Yv _ _ _ _ _ _ _ Y9 (pv 2) Yh (fun _ _=>rfl)) Yh (fun _ _=>rfl)) (@Ya _ _ _ _ _ (@Ys _ _ _ _ _ _ _ _ _ _ _ _ Zw hr (@Ya _ _ _ _ _ (@Yv _ _ _ _ _ _ _ YD (pv 0) Yh (fun _ _=>rfl)) (@Ya _ _ _ _ _ (@Yv _ _ _ _ _ _ _ YD (pv 1) Yh (fun _ _=>rfl)) Yc (by rfl)) (by rfl)) (by omega) (by rfl) (by rfl) (by decide) (by rfl) (by rfl)) (@Ya _ _ _ _ _ (@Yv _ _ _ _ _ _ _ Y9 (pv 2) Yh (fun _ _=>rfl)) Yc (by rfl)) (by rfl)) (by rfl))))) Ym) (@Yd _ _ _ _ _ (@Yx _ _ _ _ _ _ _ _ (@Yq _ _ _ _ _ _ _ _ YK (pv 3) YC (Yo _)) (@Yf _ _ _ Yy) Ym) (@Yf _ _ _ (@Yl _ _ _ _ (@Ys _ _ _ _ _ _ _ _ _ _ _ _ mY hr (@Ya _ _ _ _ _ (pv 0) (@Ya _ _ _ _ _ (pv 2) Yc (by rfl)) (by rfl)) (by omega) (by rfl) (by rfl) (by decide) (by rfl) (by rfl)))))))))),?_⟩;have kl:=f2.len;refine Yp fun R rr=>?_
 walk_at "rd"
 cases hw with
 | wh o ho =>
  obtain ⟨a,rfl,ha⟩:=Q3 hS
  cases hv.d8
  refine ⟨a,rfl,_,aq.of ha,_,Yk (j:=0) rfl,rr _ _ (cR rfl rfl ?_)⟩;walk_at "rd";refine ⟨_,aq.of ha,_,Yk (j:=1) rfl,_,rfl,rfl,few (by decide),fun p hp=>?_⟩;have e:sz lo .wh (.int (lo+o))=fQ o:=by rw [sz,Wt]
  rw [show lo+(o:Int) - lo=o by omega];rw [e] at q
  exact q _ _ (.aj hp _) ⟨p,_,rfl,Yb⟩
 | tx l h n =>
  obtain ⟨a,rfl,ha⟩:=Q4 hS
  cases hv.bM.1
  refine ⟨a,rfl,_,aq.of ha,_,Yk (j:=0) rfl,rr _ _ (aR rfl (by decide +kernel) (cR rfl rfl ?_))⟩;walk_at "rd";have sl:(S l).length=l.length:=XO l;rw [sl];refine ⟨few (by omega),few (by decide),fun p gp=>?_⟩;have s0:=Ye.aj gp (.lst [V.int (l.length:Nat)]);have hS':=s0 _ _ ha;refine Ht (l:=l) (l.map fun c=>V.int (Txt.find "ab" (S [c]))) (fun R r=>by walk_at "rd";exact r) (by simp) (by omega) ?_ ?_
  ·intro i c y H' hc hy sm R r
   rw [Ν,hc] at hy
   cases Λ hy
   walk_at "rd";exact ⟨_,aq.of (sm _ _ hS'),_,Yk (j:=1) rfl,rfl,_,rfl,r H' (.refl H')⟩
  ·intro D H' gD sm hd
   refine ⟨D,rfl,_,sm _ _ Yb,_,hd,few (by simp;omega),fun Y gY=>⟨_,.inl ⟨ao.of Yb,fun Z gZ=>?_⟩⟩⟩;have e:sz lo .tx (.str (S l))=l.length:=sl;rw [e] at q
   exact q _ _ (((s0.trans sm).trans (.aj gY _)).trans (.aj gZ _)) ⟨Z,_,rfl,Yb⟩
 | rw =>
  obtain ⟨a,b',rfl,ha,hb'⟩:=UJ hS;refine ⟨a,rfl,_,aq.of ha,_,Yk (j:=0) rfl,rr _ _ (aR rfl (by decide +kernel) (aR rfl (by decide +kernel) (cR rfl rfl ?_)))⟩;walk_at "rd";refine ⟨b,ks,_,rfl,hb,f2,by rw [kl];simp,fun H1 s1=>⟨few (by decide),fun X gX=>?_⟩⟩;have sX:=Ye.aj gX (.lst [.int ((0:Nat):Int)]);refine ⟨_,Yb,_,sX _ _ (s1 _ _ hb),few (by simp [kl]),fun Y gY=>⟨_,.inl ⟨ao.of Yb,fun Z gZ=>?_⟩⟩⟩;exact q _ _ (((s1.trans sX).trans (.aj gY _)).trans (.aj gZ _)) ⟨Z,ks,rfl,Yb⟩
 | pk k e gg z =>
  obtain ⟨a,b',c0,c1,p0,p1,rfl,ha,hP⟩:=UK hS;obtain ⟨a',m,u,rfl,ha',h5,h6⟩:=dJ hv
  cases h5.bM.1
  refine ⟨a,rfl,_,aq.of ha,_,Yk (j:=0) rfl,rr _ _ (aR rfl (by decide +kernel) (aR rfl (by decide +kernel) (aR rfl (by decide +kernel) (cR rfl rfl ?_))))⟩;walk_at "rd"
  match ks,kl with
  | [k0],_ =>
  obtain ⟨k1,r0,rfl,e0'⟩:=f2.get 0 k0 _ rfl rfl;refine ⟨_,ao.of hb,_,Yk (j:=0) rfl,k1,rfl,_,aq.of e0',_,Yk (j:=0) rfl,_,aq.of ha,_,Yk (j:=1) rfl,_,aq.of ha',_,Yk (j:=0) rfl,lo,b',c0,c1,p0,p1,k,rfl,hP,fun H1 s1=>⟨_,ao.of (s1 _ _ hb),_,Yk (j:=0) rfl,few (by decide),fun X gX=>?_⟩⟩;rw [z] at q
  exact q _ _ (s1.trans (.aj gX _)) ⟨X,_,rfl,Yb⟩
 | my p ds n gg =>
  obtain ⟨a,w,rfl,ha,hw⟩:=Q5 hS;refine ⟨a,rfl,_,aq.of ha,_,Yk (j:=0) rfl,rr _ _ (aR rfl (by decide +kernel) (aR rfl (by decide +kernel) (aR rfl (by decide +kernel) (aR rfl (by decide +kernel) (aR rfl (by decide +kernel) ?_)))))⟩;walk_at "rd";rw [Ε,Ε] at kl
  refine ⟨a,b,w,ks,_,rfl,ha,hb,f2,by omega,fun k H' s' h=>q k H' s' ?_⟩;rw [dA,kl] at h
  exact h
inductive pq (K:Κ) (m:Nat) (vs:List V) (H:Hp) (Q:VK) (E_:XK):Prop
 | mk (B:V) (lo:Int) (x v:V) (s:Sh) (d:Β) (G:Hp) (h0:vs=[B,x,v]) (h1:Ye G H) (h2:DV G x (bR lo s)) (h3:DV G v d) (h4:gd lo s d) (h5:aQ s<=m) (h6:∀ k H',Ye H H'->Ky H' k (sz lo s d)->Q k H')
theorem YcB {K:Κ} {vs:List V} {H:Hp} {Q:VK} {E:XK} (h:pq K 0 vs H Q E):False:=by
 obtain ⟨B,lo,x,v,s,d,G,_,_,_,_,_,h,_⟩:=h
 cases s<;>simp [aQ] at h
inductive WgV (H1:Hp) (lo:Int) (G:Hp) (B x v:V) (p l:Addr) (ts:List Addr) (L:List (Sh×Β)) (i:Nat) (σ:St) (H':Hp):Prop
 | mk (o4 o5 o6:Option V) (ks:List V) (e:σ=[some B,some x,some v,some (.ref p),o4,o5,o6]) (s:Ye H1 H') (hp:H' p=some (.lst ks)) (hl:H' l=some (.lst (ts.map V.ref))) (pr:iR lo G H' ts L) (ky:F2 (Ky H') ks ((L.take i).map fun w=>sz lo w.1 w.2))
theorem UL {K:Κ} {tl:TE} {g:TG} {tb:TS} {D:Ends} {σ:St} {H:Hp} (G:Addr->List V->Hp->Prop) (ha:∀ R:V->Hp->Prop,(∀ a xs H1,ao K H1 a xs->G a xs H1->R (.ref a) H1)->tl σ H R)
  (hb:∀ a xs H1,ao K H1 a xs->G a xs H1->∃ Pv:Nat->St->Hp->Prop,Pv 0 σ H1/\(∀ i σ H,i<=xs.length->Pv i σ H->ao K H a xs) /\
   (∀ i x σ H,xs[i]?=some x->Pv i σ H->g x σ H fun σ2 H2=>tb { D with nx:=Pv (i+1),ct:=Pv (i+1),bk:=D.nx } σ2 H2)/\∀ σ H,Pv xs.length σ H->D.nx σ H):XS (XM K tl) g tb D σ H :=
 ha _ fun a xs H1 hS hG=>by
  obtain ⟨Pv,h0,hl,hs,hd⟩:=hb a xs H1 hS hG;exact ⟨a,rfl,⟨xs,hS⟩,Vk Pv h0 hl hs hd⟩
theorem ud {k:Nat}  (R:g.Raw "weighed" "weighed" yj ["book","shape","value"]) (mZ:g.Fn k "has_form" ["shape","value"] (tY g.K)) (zL:g.Fn k "things_within" ["book","shape","value"] (zJ g.K)) (m5:g.Fn k "key_made" ["shape","value","keys"] (uc g.K)) (pA:g.Fn k "weighed" ["book","shape","value"] (pq g.K m)):g.Fn (k+1) "weighed" ["book","shape","value"] (pq g.K (m+1)):=by
 refine R.fn oW (fun vs H Q E h=>by obtain ⟨B,lo,x,v,s,d,G,rfl,sg,hS,hv,hg,hm,q⟩:=h;rfl) fun f_ cdv A outer s H vs Q E hr h=>?_
 obtain ⟨B,lo,x,v,s,d,G,rfl,sg,hS,hv,hg,hm,q⟩:=h;refine ⟨_,(@Yd _ _ _ _ _ (@Yx _ _ _ _ _ _ _ _ (@Wr _ _ _ _ (@YY _ _ _ (@Ys _ _ _ _ _ _ _ _ _ _ _ _ mZ hr (@Ya _ _ _ _ _ (pv 1) (@Ya _ _ _ _ _ (pv 2) Yc (by rfl)) (by rfl)) (by omega) (by rfl) (by rfl) (by decide) (by rfl) (by rfl)) (by intro _;rfl))) (@Yf _ _ _ Yy) Ym) (@Yd _ _ _ _ _ (@Yr _ _ (3) _ _ _ _ oW.nd rfl (.inl rfl) (@YU _ _ _ _ Yc) (by rfl) (by first | exact .inl rfl | exact .inr rfl | assumption)) (@Yd _ _ _ _ _ (@Xo _ _ _ _ _ _ _ _ ae rfl (@YW _ _ _ _ (@Ys _ _ _ _ _ _ _ _ _ _ _ _ zL hr (@Ya _ _ _ _ _ (pv 0) (@Ya _ _ _ _ _ (pv 1) (@Ya _ _ _ _ _ (pv 2) Yc (by rfl)) (by rfl)) (by rfl)) (by omega) (by rfl) (by rfl) (by decide) (by rfl) (by rfl))) (@WH _ _ _ _ _ (2) rfl (@Y7 _ _ _ _ _ (@Yu _ _ (4) _ oW.nd rfl (.inl rfl) (by first | exact .inl rfl | exact .inr rfl | assumption)) (@Y7 _ _ _ _ _ (@Yu _ _ (5) _ oW.nd rfl (.inl rfl) (by first | exact .inl rfl | exact .inr rfl | assumption)) Wf (by rfl)) (by rfl)) (by rfl) (by rfl)) (@Yd _ _ _ _ _ (@Yr _ _ (6) _ _ _ _ oW.nd rfl (.inl rfl) (@Ys _ _ _ _ _ _ _ _ _ _ _ _ pA hr (@Ya _ _ _ _ _ (pv 0) (@Ya _ _ _ _ _ (pv 4) (@Ya _ _ _ _ _ (pv 5) Yc (by rfl)) (by rfl)) (by rfl)) (by omega) (by rfl) (by rfl) (by decide) (by rfl) (by rfl)) (by rfl) (by first | exact .inl rfl | exact .inr rfl | assumption)) (@Yd _ _ _ _ _ (@Yx _ _ _ _ _ _ _ _ (@Yq _ _ _ _ _ _ _ _ Ut (pv 6) XF (Yo _)) (@Yf _ _ _ Yy) Ym) (@Yf _ _ _ (@Y0 _ _ _ _ (@Xw _ _ _ _ _ _ _ _ _ _ _ _ bb bc bj Y6 (pv 3) (@Ya _ _ _ _ _ (pv 6) Yc (by rfl)) (by rfl) (by rfl) (by rfl) (by rfl) (by rfl)) (by rfl))))) (by intro _;rfl)) (@Yf _ _ _ (@Yl _ _ _ _ (@Ys _ _ _ _ _ _ _ _ _ _ _ _ m5 hr (@Ya _ _ _ _ _ (pv 1) (@Ya _ _ _ _ _ (pv 2) (@Ya _ _ _ _ _ (pv 3) Yc (by rfl)) (by rfl)) (by rfl)) (by omega) (by rfl) (by rfl) (by decide) (by rfl) (by rfl))))))),?_⟩;refine Yp fun R rr=>?_
 walk_at "rd";obtain ⟨L,hw⟩:=Jp hg;refine ⟨lo,x,s,v,d,rfl,hS.keep sg,hv.keep sg,hg,fun H1 s1=>⟨_,rfl,Y5 (by decide) (rr _ _ (Yp fun R rr=>?_))⟩⟩;walk_at "rd";refine ⟨few (by decide),fun p gp=>rr _ _ (Yp fun R rr=>?_)⟩;have sp:=Ye.aj gp (.lst []);have s2:=s1.trans sp;have hL:=hw.len;have hsb:=hw.sub;refine UL (fun l xs H2=>∃ (ts:List Addr),xs=ts.map V.ref/\Ye (upd H1 p (.lst [])) H2/\H2 l=some (.lst (ts.map V.ref))/\l≠p/\iR lo G H2 ts L) (fun R r=>?_) ?_
 ·walk_at "rd"
  exact ⟨B,lo,x,v,s,d,L,G,rfl,sg.trans s2,hS,hv,hw,fun D ts H' s' gD hD pr=>r D _ H' (ao.of hD) ⟨ts,rfl,s',hD,(fun e=>by rw [e,Yb] at gD;cases gD),pr⟩⟩
 ·rintro l xs H2 hS2 ⟨ts,rfl,s3,hl,hlp,pr⟩
  have qX:=pr.1;refine ⟨WgV H1 lo G B x v p l ts L,⟨none,none,none,[],rfl,sp.trans s3,s3 _ _ Yb,hl,pr,.nil⟩,fun i σ H' _ ⟨_,_,_,_,_,_,_,hl',_,_⟩=>ao.of hl',?_,?_⟩
  ·rintro i y σ H' hx ⟨o4,o5,o6,ks,rfl,s4,pB,Jq,pr4,pC⟩
   rw [Ν] at hx
   obtain ⟨t,ht,rfl⟩:=ο.mp hx;have hi:=(Ι.mp ht).1;have hwi:L[i]?=some (L[i]'(by omega)):=Χ _;generalize L[i]'(by omega)=w at hwi;have zM:=Τ hwi;obtain ⟨y,u,e1,e2,e3⟩:=pr4.2 i t w ht hwi;have kl:=pC.len;rw [Ε,ι] at kl
   refine ⟨t,_,rfl,aq.of e1,rfl,_,_,rfl,_,_,rfl,rfl,Yp fun R rr=>?_⟩;walk_at "rd";obtain ⟨g1,l1⟩:=hsb w zM;have s14:=s1.trans s4;refine ⟨B,lo,y,u,w.1,w.2,G,rfl,sg.trans s14,e2,e3,g1,by omega,fun k H5 s5 Jr=>rr _ _ (Yp fun R rr=>?_)⟩;obtain ⟨kk,r0,rfl,hkk⟩:=id Jr;walk_at "rd";refine rr _ _ ?_;walk_at "rd";refine ⟨.inl ⟨rfl,_,ao.of (s5 _ _ pB)⟩,_,s5 _ _ pB,few (by omega),?_⟩;have tl:Tp H5 (upd H5 p (.lst (ks++[.ref kk]))):=zH (s5 _ _ pB);have tp:Tp H' (upd H5 p (.lst (ks++[.ref kk]))):=(Ygl s5).trans tl;refine ⟨_,_,_,ks++[.ref kk],rfl,.aP gp (s4.trans s5) _,Yb,by rw [Yg hlp];exact s5 _ _ Jq,pr4.tp tp,?_⟩;rw [Xb hwi,ξ];exact F2.app (pC.imp fun _ _ h=>h.tp tp) (.cons (Jr.tp tl) .nil)
  ·rintro σ H' ⟨o4,o5,o6,ks,rfl,s4,pB,Jq,pr4,pC⟩
   rw [Ε,qX,c9] at pC
   refine rr _ _ ?_;walk_at "rd";have s5:=(sg.trans s1).trans s4;exact ⟨lo,x,v,s,d,L,p,ks,rfl,hS.keep s5,hv.keep s5,hw,pB,pC,fun k H6 s6 hk=>q k H6 ((s1.trans s4).trans s6) hk⟩
inductive Jv (lo:Int) (H:Hp) (s:Sh) (d:Β):List V->Prop
 | mk (B x v:V) (G:Hp) (sg:Ye G H) (hS:DV G x (bR lo s)) (hv:DV G v d) (hg:gd lo s d) (hm:aQ s<=4):Jv lo H s d [B,x,v]
inductive pD (K:Κ) (vs:List V) (H:Hp) (Q:VK) (E_:XK):Prop
 | mk (lo:Int) (s:Sh) (d:Β) (h0:Jv lo H s d vs) (h1:∀ k H',Ye H H'->Ky H' k (sz lo s d)->Q k H')
theorem Z3d {k:Nat}  (R:g.Raw "key_or_refusal" "key_or_refusal" yr ["book","shape","value"]) (pA:g.Fn k "weighed" ["book","shape","value"] (pq g.K 4)):g.Fn (k+1) "key_or_refusal" ["book","shape","value"] (pD g.K):=by
 refine R.fn Je (fun vs H Q E h=>by obtain ⟨lo,s,d,⟨B,x,v,G,sg,hS,hv,hg,hm⟩,q⟩:=h;rfl) fun f_ cdv A outer s H vs Q E hr h=>?_
 obtain ⟨lo,s,d,⟨B,x,v,G,sg,hS,hv,hg,hm⟩,q⟩:=h;refine ⟨_,(@Yd _ _ _ _ _ (@Yr _ _ (3) _ _ _ _ Je.nd rfl (.inl rfl) (@Ys _ _ _ _ _ _ _ _ _ _ _ _ pA hr (@Ya _ _ _ _ _ (pv 0) (@Ya _ _ _ _ _ (pv 1) (@Ya _ _ _ _ _ (pv 2) Yc (by rfl)) (by rfl)) (by rfl)) (by omega) (by rfl) (by rfl) (by decide) (by rfl) (by rfl)) (by rfl) (by first | exact .inl rfl | exact .inr rfl | assumption)) (@Yd _ _ _ _ _ (@Yx _ _ _ _ _ _ _ _ (@Yq _ _ _ _ _ _ _ _ Ut (pv 3) XF (Yo _)) (@Yf _ _ _ Yy) Ym) (@Yf _ _ _ (@Yl _ _ _ _ (pv 3))))),?_⟩;refine Yp fun R rr=>?_
 walk_at "rd";refine ⟨B,lo,x,v,s,d,G,rfl,sg,hS,hv,hg,hm,fun k H' s' hk=>rr _ _ (Yp fun R rr=>?_)⟩;obtain ⟨kk,r,rfl,h⟩:=id hk;walk_at "rd";refine rr _ _ ?_;walk_at "rd";exact q _ H' s' hk
inductive mz (K:Κ) (vs:List V) (H:Hp) (Q:VK) (E_:XK):Prop
 | mk (lo:Int) (s:Sh) (d:Β) (h0:Jv lo H s d vs) (h1:∀ H',Ye H H'->Q (.bl true) H')
theorem Ygm {k:Nat}  (R:g.Raw "fits" "fits" yt ["book","shape","value"]) (pA:g.Fn k "weighed" ["book","shape","value"] (pq g.K 4)):g.Fn (k+1) "fits" ["book","shape","value"] (mz g.K):=by
 refine R.fn Ygj (fun vs H Q E h=>by obtain ⟨lo,s,d,⟨B,x,v,G,sg,hS,hv,hg,hm⟩,q⟩:=h;rfl) fun f_ cdv A outer s H vs Q E hr h=>?_
 obtain ⟨lo,s,d,⟨B,x,v,G,sg,hS,hv,hg,hm⟩,q⟩:=h;refine ⟨_,(@Yf _ _ _ (@Yl _ _ _ _ (@Xe _ _ _ _ _ _ _ _ VR (@Ys _ _ _ _ _ _ _ _ _ _ _ _ pA hr (@Ya _ _ _ _ _ (pv 0) (@Ya _ _ _ _ _ (pv 1) (@Ya _ _ _ _ _ (pv 2) Yc (by rfl)) (by rfl)) (by rfl)) (by omega) (by rfl) (by rfl) (by decide) (by rfl) (by rfl)) XF (Yo _)))),?_⟩;walk_at "rd";refine ⟨B,lo,x,v,s,d,G,rfl,sg,hS,hv,hg,hm,fun k H' s' hk=>?_⟩;obtain ⟨kk,r,rfl,h⟩:=hk;exact q H' s'
inductive pF (K:Κ) (vs:List V) (H:Hp) (Q:VK) (E_:XK):Prop
 | mk (lo:Int) (s:Sh) (d:Β) (h0:Jv lo H s d vs) (h1:∀ H',Ye H H'->Q (.int (sz lo s d:Nat)) H')
theorem YcC {k:Nat}  (R:g.Raw "size_of" "size_of" yw ["book","shape","value"]) (Z3r:g.Fn k "key_or_refusal" ["book","shape","value"] (pD g.K)):g.Fn (k+1) "size_of" ["book","shape","value"] (pF g.K):=by
 refine R.fn Ycz (fun vs H Q E h=>by obtain ⟨lo,s,d,⟨B,x,v,G,sg,hS,hv,hg,hm⟩,q⟩:=h;rfl) fun f_ cdv A outer s H vs Q E hr h=>?_
 obtain ⟨lo,s,d,⟨B,x,v,G,sg,hS,hv,hg,hm⟩,q⟩:=h;refine ⟨_,(@Yf _ _ _ (@Yl _ _ _ _ (@Yv _ _ _ _ _ _ _ YD (@Ys _ _ _ _ _ _ _ _ _ _ _ _ Z3r hr (@Ya _ _ _ _ _ (pv 0) (@Ya _ _ _ _ _ (pv 1) (@Ya _ _ _ _ _ (pv 2) Yc (by rfl)) (by rfl)) (by rfl)) (by omega) (by rfl) (by rfl) (by decide) (by rfl) (by rfl)) Yh (fun _ _=>rfl)))),?_⟩;walk_at "rd";exact ⟨lo,s,d,⟨B,x,v,G,sg,hS,hv,hg,hm⟩,fun k H' s' ⟨kk,r,e,h⟩=>⟨kk,e,_,aq.of h,_,Yk (j:=0) rfl,q H' s'⟩⟩
inductive jN (K:Κ) (vs:List V) (H:Hp) (Q:VK) (E_:XK):Prop
 | mk (lo:Int) (s:Sh) (d:Β) (h0:Jv lo H s d vs) (h1:∀ H',Ye H H'->Q .non H')
theorem Z2U {k:Nat}  (R:g.Raw "refuse_no_value" "refuse_no_value" yu ["book","shape","value"]) (zN:g.Fn k "fits" ["book","shape","value"] (mz g.K)):g.Fn (k+1) "refuse_no_value" ["book","shape","value"] (jN g.K):=by
 refine R.fn Z2L (fun vs H Q E h=>by obtain ⟨lo,s,d,⟨B,x,v,G,sg,hS,hv,hg,hm⟩,q⟩:=h;rfl) fun f_ cdv A outer s H vs Q E hr h=>?_
 obtain ⟨lo,s,d,⟨B,x,v,G,sg,hS,hv,hg,hm⟩,q⟩:=h;refine ⟨_,(@Yf _ _ _ (@Yx _ _ _ _ _ _ _ _ (@Wr _ _ _ _ (@YY _ _ _ (@Ys _ _ _ _ _ _ _ _ _ _ _ _ zN hr (@Ya _ _ _ _ _ (pv 0) (@Ya _ _ _ _ _ (pv 1) (@Ya _ _ _ _ _ (pv 2) Yc (by rfl)) (by rfl)) (by rfl)) (by omega) (by rfl) (by rfl) (by decide) (by rfl) (by rfl)) (by intro _;rfl))) (@Yf _ _ _ Yy) Ym)),?_⟩;walk_at "rd";exact ⟨lo,s,d,⟨B,x,v,G,sg,hS,hv,hg,hm⟩,fun H' s'=>⟨_,rfl,Y5 (by decide) (q H' s')⟩⟩
def SameBut (p:Addr) (H H':Hp):Prop:=∀ q o,q≠p->H q=some o->H' q=some o
structure Cs where
 row:Addr
 tab:Addr
def fR (P T:Addr):List (Str×V):=[("parts",.ref P),("table",.ref T)]
def Vb (P L:Addr):List (Str×V):=[("parts",.ref P),("ways",.ref L)]
def mf (c:Addr) (fs:List (Str×V)):List (Str×V):=("counts",.ref c)::fs
theorem UM {fs:List (Str×V)} (h:fs.length<=3):fs.length<1000:=by omega
inductive Js (C:Cs) (vs:List V) (H:Hp) (Q:VK) (E_:XK):Prop
 | mk (p dx:Addr) (h0:vs=[.ref p]) (h1:H p=some (.ins C.row dx [])) (h2:∀ c,H c=none->Q .non (upd (upd H c (.lst [])) p (.ins C.row dx [("counts",.ref c)])))
theorem Z3e {Z0 Z1:Addr} (R:g.jH "Maker" "__init__" "Maker.__init__" zB ["self"]) (Z7:Cls g.K Z0) (Z6:Yt g.K Z0 "counts") (Z9:Yt g.K Z0 "parts") (Za:Yt g.K Z0 "table"):g.Cf (1) "Maker" "__init__" ["self"] (Js (Cs.mk Z0 Z1)):=by
 refine R.cf Z3b (fun vs H Q E h=>by obtain ⟨p,dx,rfl,hp,q⟩:=h;rfl) fun f_ cdv A outer s H vs Q E hr h=>?_
 obtain ⟨p,dx,rfl,hp,q⟩:=h;refine ⟨_,(@Yf _ _ _ (@X9 _ _ _ _ _ _ _ _ (pv 0) (@YU _ _ _ _ Yc) rfl)),?_⟩;walk_at "rd";exact ⟨few (by decide),fun c hc=>⟨Z0,dx,[],by rw [Yg (Yj hp hc)];exact hp,Z7,Z6,by decide,q c hc⟩⟩
theorem n1 {a b:Str} (h:(a==b)=false):¬ a=b:=fun z=>by rw [z] at h;simp at h
theorem NK {f:Str} {v:V} {c:Addr} (h:¬ (("counts":Str)=f)):Y1 f v [("counts",.ref c)]=mf c [(f,v)]:=by simp only [Y1,if_neg h];rfl
theorem put2 {f f':Str} {v v':V} {c:Addr} (h:¬ (("counts":Str)=f)) (h2:¬ f'=f):Y1 f v (mf c [(f',v')])=mf c [(f',v'),(f,v)]:=by
 show Y1 f v [(("counts":Str),V.ref c),(f',v')]=_
 simp only [Y1,if_neg h,if_neg h2];rfl
inductive Jt (C:Cs) (vs:List V) (H:Hp) (Q:VK) (E_:XK):Prop
 | mk (T dx P:Addr) (as:List Addr) (h0:vs=[.ref T,.ref P]) (h1:H T=some (.ins C.tab dx [])) (h2:H P=some (.lst (as.map V.ref))) (h3:as.length<=100) (h4:∀ L (ws:List Addr) H',H L=none->(∀ x∈ws,H x=none)->ws.Nodup->ws.length=as.length+1->SameBut T H H'->H' T=some (.ins C.tab dx (Vb P L))->H' L=some (.lst (ws.map V.ref))->(∀ x∈ws,H' x=some (.lst []))->Q .non H')
theorem Z26 {Z0 Z1:Addr} (R:g.dz "RowTable" Z1 "RowTable.__init__" ZW ["self","parts"]) (aA:g.mg "len"=none) (Ze:g.mg "range"=none) (Zf:Cls g.K Z1) (Zh:Yt g.K Z1 "parts") (Zd:Yt g.K Z1 "ways"):g.Ma (1) "RowTable" Z1 ["self","parts"] (Jt (Cs.mk Z0 Z1)):=by
 refine R.ma Z22 (fun vs H Q E h=>by obtain ⟨T,dx,P,as,rfl,hT,hP,hl,q⟩:=h;rfl) fun f_ cdv A outer s H vs Q E hr h=>?_
 obtain ⟨T,dx,P,as,rfl,hT,hP,hl,q⟩:=h;refine ⟨_,(@Yd _ _ _ _ _ (@X9 _ _ _ _ _ _ _ _ (pv 0) (pv 1) rfl) (@Yf _ _ _ (@X9 _ _ _ _ _ _ _ _ (pv 0) (@Xj _ _ _ _ _ _ _ ([none]) ((["place"]:List Str)) _ (YE 0) _ _ (.own .nil) rfl (@XB _ _ _ _ _ _ rfl Ze (@Ya _ _ _ _ _ (@Yn _ _ _ _ _ _ _ _ YT (@YG _ _ _ _ _ _ _ _ _ _ aA YB (@Ya _ _ _ _ _ (pv 1) Yc (by rfl)) (by decide +kernel) (by rfl) (by rfl) (by decide) (by decide) (by rfl) (by rfl)) Yh) Yc (by rfl)) (by rfl)) (fun cl C s₀ H₀ fp pn=>(@Yu _ _ (0) _ (show aI (["place"]:List Str) by decide +kernel) rfl (.inl rfl) (.inr rfl))) (fun cl C s₀ H₀ fp pn=>YV) (fun cl C s₀ H₀ fp pn=>(@YU _ _ _ _ Yc)) (by intro x hx;simp at hx) (by rfl) (by decide) (by decide +kernel) (by intro _;rfl)) rfl))),?_⟩;walk_at "rd";have nTP:T≠P:=YI hT hP (by simp);refine ⟨_,dx,_,hT,Zf,Zh,by decide,?_⟩;obtain ⟨H1,hH1⟩:∃ H1,H1=upd H T (.ins Z1 dx (Y1 "parts" (.ref P) [])):=⟨_,rfl⟩;rw [<- hH1];have zO:H1 T=some (.ins Z1 dx (Y1 "parts" (.ref P) [])):=by rw [hH1,Yb]
 have h1:∀ {b:Addr},b≠T->H1 b=H b:=fun n=>by rw [hH1,Yg n]
 refine Wy (n:=as.length+1) (fun D i zs H'=>∃ ws:List Addr,zs=ws.map V.ref/\ws.length=i/\ws.Nodup/\(∀ x∈ws,H1 x=none/\x≠D/\H' x=some (.lst []))/\H' D=some (.lst zs)/\∀ b o,b≠D->H1 b=some o->H' b=some o) (fun R r=>?_) (by omega) ?_ ?_ ?_ ?_
 ·walk_at "rd"
  refine ⟨_,.inl (ao.of ((h1 (ω nTP)).trans hP)),?_⟩;rw [Ε];exact r
 ·intro D hD
  exact ⟨[],rfl,rfl,.nil,fun x hx=>(by cases hx),Yb,fun b o hb e=>by rw [Yg hb];exact e⟩
 ·rintro D i zs H' ⟨ws,rfl,h2,_,_,h3,_⟩
  exact ⟨by rw [Ε,h2],h3⟩
 ·rintro D i zs H' hD hi ⟨ws,rfl,hwl,hnd,hws,hd,fr⟩ R r
  walk_at "rd";refine ⟨few (by decide),fun X gX=>?_⟩;have zP:X≠D:=ω (Yj hd gX);have sX:=Ye.aj gX (.lst []);have gX1:H1 X=none:=by
   cases e:H1 X with
   | none=>rfl
   | some o=>rw [fr X o zP e] at gX;cases gX
  refine r _ _ (sX _ _ hd) ⟨ws++[X],by rw [ξ];rfl,by rw [Ζ,hwl];rfl,?_,fun x hx=>?_,Yb,fun b o hb e=>by rw [Yg hb];exact sX _ _ (fr b o hb e)⟩
  ·rw [cz]
   refine ⟨hnd,by simp,fun x hx y hy=>?_⟩;have:y=X:=by simpa using hy
   subst this;intro z;subst z;rw [(hws x hx).2.2] at gX
   cases gX
  ·rcases η.mp hx with hx | hx
   ·obtain ⟨k1,k2,k3⟩:=hws x hx
    exact ⟨k1,k2,by rw [Yg k2];exact sX _ _ k3⟩
   ·have:x=X:=by simpa using hx
    subst this;exact ⟨gX1,zP,by rw [Yg zP,Yb]⟩
 ·rintro L zs H' hL ⟨ws,rfl,hwl,hnd,hws,hd,fr⟩
  have Ju:L≠T:=ω (Yj zO hL);have nf:∀ {b:Addr},H1 b=none->H b=none:=fun {b} e=>by
   by_cases c:b=T
   ·subst c;rw [zO] at e;cases e
   ·rw [<- h1 c];exact e
  have Jw:=fr T _ (ω Ju) zO;refine ⟨_,dx,_,Jw,Zf,Zd,UM (show 1<=3 by decide),?_⟩;have nw:∀ x∈ws,x≠T:=fun x hx=>YI (hws x hx).2.2 Jw (by simp)
  refine q L ws _ (nf hL) (fun x hx=>nf (hws x hx).1) hnd hwl (fun b o hb e=>?_) ?_ (by rw [Yg Ju];exact hd) (fun x hx=>by rw [Yg (nw x hx)];exact (hws x hx).2.2)
  ·rw [Yg hb]
   exact fr b o (Yj ((h1 hb).trans e) hL) ((h1 hb).trans e)
  ·rw [Yb]
   refine congrArg some (congrArg (HO.ins _ _) ?_)
   show Y1 "ways" (.ref L) [(("parts":Str),V.ref P)]=Vb P L
   simp only [Y1,if_neg (n1 (a:=("parts":Str)) (b:=("ways":Str)) (by decide +kernel))];rfl
inductive Jx (C:Cs) (vs:List V) (H:Hp) (Q:VK) (E_:XK):Prop
 | mk (p dx P:Addr) (as:List Addr) (h0:vs=[.ref p,.ref P]) (h1:H p=some (.ins C.row dx [])) (h2:H P=some (.lst (as.map V.ref))) (h3:as.length<=100) (h4:∀ c T dt L (ws:List Addr) H',H c=none->H T=none->H L=none->(∀ x∈ws,H x=none)->(c::ws).Nodup->ws.length=as.length+1->SameBut p H H'->H' p=some (.ins C.row dx (mf c (fR P T)))->H' c=some (.lst [])->H' T=some (.ins C.tab dt (Vb P L))->H' L=some (.lst (ws.map V.ref))->(∀ x∈ws,H' x=some (.lst []))->Q .non H')
theorem Z27 {k:Nat} {Z0 Z1:Addr} (R:g.dz "RowMaker" Z0 "RowMaker.__init__" ZY ["self","parts"]) {cM:Nat} (Z2s:g.Ma cM "RowTable" Z1 ["self","parts"] (Jt (Cs.mk Z0 Z1))) (nZ:cM+1<=k) (Z3s:g.Cf k "Maker" "__init__" ["self"] (Js (Cs.mk Z0 Z1))) (Z7:Cls g.K Z0) (Z6:Yt g.K Z0 "counts") (Z9:Yt g.K Z0 "parts") (Za:Yt g.K Z0 "table"):g.Ma (k+1) "RowMaker" Z0 ["self","parts"] (Jx (Cs.mk Z0 Z1)):=by
 refine R.ma Z23 (fun vs H Q E h=>by obtain ⟨p,dx,P,as,rfl,hp,hP,hl,q⟩:=h;rfl) fun f_ cdv A outer s H vs Q E hr h=>?_
 obtain ⟨p,dx,P,as,rfl,hp,hP,hl,q⟩:=h;refine ⟨_,(@Yd _ _ _ _ _ (@Y0 _ _ _ _ (@Ek _ _ _ _ _ _ _ _ _ _ _ _ _ _ _ Z3s hr (@Ya _ _ _ _ _ (pv 0) Yc (by rfl)) (by omega) (by rfl) (by rfl) (by decide) (by rfl) (by rfl) (by rfl)) (by rfl)) (@Yd _ _ _ _ _ (@X9 _ _ _ _ _ _ _ _ (pv 0) (pv 1) rfl) (@Yf _ _ _ (@X9 _ _ _ _ _ _ _ _ (pv 0) (@QW _ _ _ _ _ _ _ _ _ _ _ _ _ Z2s hr (@Ya _ _ _ _ _ (pv 1) Yc (by rfl)) (by omega) (by rfl) (by rfl) (by decide) (by rfl) (by rfl)) rfl)))),?_⟩;walk_at "rd";refine ⟨p,dx,rfl,hp,fun c hc=>?_⟩;have hne:p≠c:=Yj hp hc;have npP:p≠P:=YI hp hP (by simp);have jO:P≠c:=Yj hP hc;refine ⟨_,dx,_,Yb,Z7,Z9,UM (show 1<=3 by decide),?_⟩;obtain ⟨H1,hH1⟩:∃ H1,H1=upd (upd (upd H c (.lst [])) p (.ins Z0 dx [("counts",.ref c)])) p (.ins Z0 dx (Y1 "parts" (.ref P) [("counts",.ref c)])):=⟨_,rfl⟩;rw [<- hH1];have zQ:H1 p=some (.ins Z0 dx (mf c [("parts",.ref P)])):=by rw [hH1,Yb,NK (n1 (by decide +kernel))]
 have zR:H1 c=some (.lst []):=by rw [hH1,Yg (ω hne),Yg (ω hne),Yb]
 have h1:∀ {b:Addr} {o:HO},b≠p->H b=some o->H1 b=some o:=fun n e=>by rw [hH1,Yg n,Yg n,Yg (Yj e hc)];exact e
 have nf:∀ {b:Addr},H1 b=none->H b=none:=fun {b} e=>by
  cases z:H b with
  | none=>rfl
  | some o =>
   exfalso;by_cases cc:b=p
   ·subst cc;rw [zQ] at e;cases e
   ·rw [h1 cc z] at e;cases e
 intro T dt gT gdt hnd;have sd:=Ye.aj gdt (.own T);have Jy:upd H1 dt (.own T) T=none:=by rw [Yg (ω hnd)];exact gT
 have s12:=sd.trans (.aj Jy (.ins Z1 dt []));refine ⟨T,dt,P,as,rfl,Yb,s12 _ _ (h1 (ω npP) hP),hl,fun L ws H3 gL uf NP hwl sb zT pG ug=>?_⟩;have Jz:p≠T:=Yj zQ gT;have ncT:c≠T:=Yj zR gT;have pH:=sb _ _ Jz (s12 _ _ zQ);have uh:=sb _ _ ncT (s12 _ _ zR);have zU:c∉ws:=fun z=>by have:=uf c z;rw [s12 _ _ zR] at this;cases this
 have pI:∀ x∈ws,x≠p:=fun x hx=>YI (ug x hx) pH (by simp)
 have npL:L≠p:=YI pG pH (by simp);refine ⟨rfl,_,dx,_,pH,Z7,Za,UM (show 2<=3 by decide),?_⟩;refine q c T dt L ws _ hc (nf gT) (nf (s12.free gL)) (fun x hx=>nf (s12.free (uf x hx))) (aS.mpr ⟨zU,NP⟩) hwl (fun b o hb e=>?_) ?_ ?_ ?_ ?_ (fun x hx=>?_)
 ·rw [Yg hb]
  exact sb _ _ (Yj (h1 hb e) gT) (s12 _ _ (h1 hb e))
 ·rw [Yb,put2 (n1 (by decide +kernel)) (n1 (by decide +kernel))];rfl
 ·rw [Yg (ω hne)];exact uh
 ·rw [Yg (ω Jz)];exact zT
 ·rw [Yg npL];exact pG
 ·rw [Yg (pI x hx)];exact ug x hx
def lf (b:V) (d:Addr):List (Str×V):=[("book",b),("makers",.ref d)]
theorem nbm:¬ (("book":Str)="makers"):=by decide +kernel
theorem YgX (b:V) (d:Addr):Y1 "makers" (.ref d) (Y1 "book" b [])=lf b d:=by
 simp only [Y1,if_neg nbm];rfl
theorem WU (b:V) (d:Addr):(lf b d).lookup ("makers":Str)=some (.ref d):=by
 show b7 ("makers":Str) [(("book":Str),b),(("makers":Str),V.ref d)]=_
 rw [θ,show (("makers":Str)==("book":Str))=false by decide +kernel,θ,show (("makers":Str)==("makers":Str))=true by decide +kernel]
theorem JB (b:V) (d:Addr) {m:Str} (h1:(m==("book":Str))=false) (h2:(m==("makers":Str))=false):(lf b d).lookup m=none:=by
 show b7 m [(("book":Str),b),(("makers":Str),V.ref d)]=_
 rw [θ,h1,θ,h2];rfl
inductive JC (P:Ο) (w:ε) (C:Addr) (vs:List V) (H:Hp) (Q:VK) (E_:XK):Prop
 | mk (p dx:Addr) (b:V) (h0:vs=[.ref p,b]) (h1:H p=some (.ins C dx [])) (h2:∀ d H',H d=none->SameBut p H H'->H' p=some (.ins C dx (lf b d))->H' d=some (dH P w d [])->Q .non H')
theorem Z2V {Z4:Addr} (R:g.dz "Lister" Z4 "Lister.__init__" zj ["self","book"]) (Zm:Cls g.K Z4) (Zq:Yt g.K Z4 "book") (Zg:Yt g.K Z4 "makers"):g.Ma (1) "Lister" Z4 ["self","book"] (JC g.P g.w Z4):=by
 refine R.ma Z2Q (fun vs H Q E h=>by obtain ⟨p,dx,b,rfl,hp,q⟩:=h;rfl) fun f_ cdv A outer s H vs Q E hr h=>?_
 obtain ⟨p,dx,b,rfl,hp,q⟩:=h;refine ⟨_,(@Yd _ _ _ _ _ (@X9 _ _ _ _ _ _ _ _ (pv 0) (pv 1) rfl) (@Yf _ _ _ (@X9 _ _ _ _ _ _ _ _ (pv 0) YeG rfl))),?_⟩;walk_at "rd";refine ⟨Z4,dx,[],hp,Zm,Zq,by decide,fun d hd=>?_⟩;have hne:p≠d:=Yj Yb hd;rw [Yg (ω hne)] at hd
 refine ⟨Z4,dx,_,by rw [Yg hne];exact Yb,Zm,Zg,by simp [Y1],q d _ hd (fun x o hx h=>?_) ?_ ?_⟩
 ·rw [Yg hx,Yg (Yj h hd),Yg hx];exact h
 ·rw [Yb,YgX]
 ·rw [Yg (ω hne),Yb]
  rfl
theorem Xy {H:Hp} {a b:Addr} {o:HO} (h:upd H a o b=none):H b=none:=by
 by_cases e:b=a
 ·subst e;rw [Yb] at h;cases h
 ·rw [Yg e] at h;exact h
theorem VN {H H':Hp} {x dx:Addr} {o u:HO} (hx:H x=none) (hdx:H dx=none) (sb:SameBut x (upd (upd H dx o) x u) H'):Ye H H':=fun y z h=>by
 have n1:y≠x:=Yj h hx;have n2:y≠dx:=Yj h hdx;exact sb _ _ n1 (by rw [Yg n1,Yg n2];exact h)
def cn:Bool->List V
 | true=>[.int 1]
 | false=>[]
theorem WV (c:Addr) (fs:List (Str×V)):(mf c fs).lookup ("counts":Str)=some (.ref c):=rfl
theorem JD {a b m:Str} {x y:V} (h:(m==a)=false) (h2:(m==b)=true):b7 m [(a,x),(b,y)]=some y:=by rw [θ,h,θ,h2]
theorem lk3 {a b c m:Str} {x y z:V} (h:(m==a)=false) (h2:(m==b)=false) (h3:(m==c)=true):b7 m [(a,x),(b,y),(c,z)]=some z:=by rw [θ,h,θ,h2,θ,h3]
theorem zV {a b c m:Str} {x y z:V} (h:(m==a)=false) (h2:(m==b)=false) (h3:(m==c)=false):b7 m [(a,x),(b,y),(c,z)]=none:=by rw [θ,h,θ,h2,θ,h3];rfl
theorem qY {a b m:Str} {x y:V} (h:(m==a)=false) (h2:(m==b)=false):b7 m [(a,x),(b,y)]=none:=by rw [θ,h,θ,h2];rfl
theorem NQ {a b c m:Str} {x y z:V} (h:(m==a)=false) (h2:(m==b)=true):b7 m [(a,x),(b,y),(c,z)]=some y:=by rw [θ,h,θ,h2]
theorem En (c P T:Addr):(mf c (fR P T)).lookup ("reckoned":Str)=none:=zV (by decide +kernel) (by decide +kernel) (by decide +kernel)
theorem YgY (c P T:Addr):(mf c (fR P T)).lookup ("count_at":Str)=none:=zV (by decide +kernel) (by decide +kernel) (by decide +kernel)
theorem YgZ (c P T:Addr):(mf c (fR P T)).lookup ("value_at":Str)=none:=zV (by decide +kernel) (by decide +kernel) (by decide +kernel)
theorem YeN (c P T:Addr):(mf c (fR P T)).lookup ("parts":Str)=some (.ref P):=NQ (by decide +kernel) (by decide +kernel)
theorem YeO (c P T:Addr):(mf c (fR P T)).lookup ("table":Str)=some (.ref T):=lk3 (by decide +kernel) (by decide +kernel) (by decide +kernel)
theorem YeP (P L:Addr):(Vb P L).lookup ("parts":Str)=some (.ref P):=rfl
theorem V2 (P L:Addr):(Vb P L).lookup ("ways":Str)=some (.ref L):=JD (by decide +kernel) (by decide +kernel)
theorem Eo (P L:Addr):(Vb P L).lookup ("add_size":Str)=none:=qY (by decide +kernel) (by decide +kernel)
theorem Yg0 (P L:Addr):(Vb P L).lookup ("ways_at":Str)=none:=qY (by decide +kernel) (by decide +kernel)
theorem YcD {g:TG} {tb:TS} {D:Ends} {σ:St} {H:Hp} {ta:TA} {n:Nat} (Pv:Nat->St->Hp->Prop) (ha:∀ R:List V->Hp->Prop,R [.int ((n:Int) - 1),.int (-1),.int (-1)] H->ta σ H R) (hn:n<2^62) (h0:Pv 0 σ H)
  (hs:∀ i σ H,i<n->Pv i σ H->g (.int ((n - 1 - i:Nat):Int)) σ H fun σ2 H2=>tb { D with nx:=Pv (i+1),ct:=Pv (i+1),bk:=D.nx } σ2 H2) (hd:∀ σ H,Pv n σ H->D.nx σ H):XS (Hq ta) g tb D σ H:=by
 refine ha _ ⟨(n:Int) - 1,-1,rfl,⟨by omega,by omega,by omega,by omega⟩,?_⟩;have e:((n:Int) - 1 - (-1)).toNat=n:=by omega
 rw [e];refine ⟨fun i m σ H=>m=n - i/\i<=n/\Pv i σ H,⟨n,by simp,az _,h0⟩,?_⟩;rintro i m σ H ⟨rfl,hi,p⟩;by_cases hlt:i<n
 ·refine .inr ⟨hlt,Pv (i+1),fun σ' H' p'=>⟨n - (i+1),by omega,rfl,hlt,p'⟩,fun x H' y=>?_⟩
  obtain ⟨e,y⟩:=y;subst e y;have:=hs i σ _ hlt p;have e2:((n - 1 - i:Nat):Int)=(n:Int) - 1 - i:=by omega
  rw [e2] at this
  exact this
 ·have e:i=n:=by omega
  subst e;exact .inl ⟨Μ _,hd σ H p⟩
inductive um (C:Cs) (vs:List V) (H:Hp) (Q:VK) (E_:XK):Prop
 | mk (T dt Pp L w:Addr) (h0:vs=[.ref T,.int 0]) (h1:H T=some (.ins C.tab dt (Vb Pp L))) (h2:H Pp=some (.lst [])) (h3:H L=some (.lst [.ref w])) (h4:H w=some (.lst [])) (h5:Pp≠w) (h6:∀ H',SameBut w H H'->H' w=some (.lst [.int 1])->Q .non H')
theorem Z28 {Z0 Z1:Addr} (R:g.bC Z1 "add_size" "RowTable.add_size" ZX ["self","size"]) (aA:g.mg "len"=none) (Ze:g.mg "range"=none) (Zf:Cls g.K Z1) (Zh:Yt g.K Z1 "parts") (Zd:Yt g.K Z1 "ways"):g.Me (1) Z1 "add_size" ["self","size"] (um (Cs.mk Z0 Z1)):=by
 refine R.me Ji (fun vs H Q E h=>by obtain ⟨T,dt,Pp,L,w,rfl,hT,hP,hL,hw,nP,q⟩:=h;rfl) fun f_ cdv A outer s H vs Q E hr h=>?_
 obtain ⟨T,dt,Pp,L,w,rfl,hT,hP,hL,hw,nP,q⟩:=h;refine ⟨_,(@Yd _ _ _ _ _ (@Y0 _ _ _ _ (@Xw _ _ _ _ _ _ _ _ _ _ _ _ bb bc bj Y6 (@Yv _ _ _ _ _ _ _ Y9 (@Xl _ _ _ _ _ (pv 0) rfl) (@WO _ _ _ _ _ _ Ws Yh) (fun _ _=>rfl)) (@Ya _ _ _ _ _ (@Fj _ _ _ _ _ _ _ _ (@Yq _ _ _ _ _ _ _ _ YK (pv 1) Yh (Yo _)) Yh Yh) Yc (by rfl)) (by rfl) (by rfl) (by rfl) (by rfl) (by rfl)) (by rfl)) (@Yf _ _ _ (@Xo _ _ _ _ _ _ _ _ ae rfl (@Ti _ _ _ _ _ _ _ _ rfl Ze (@Ya _ _ _ _ _ (@Yn _ _ _ _ _ _ _ _ Vc (@YG _ _ _ _ _ _ _ _ _ _ aA YB (@Ya _ _ _ _ _ (@Xl _ _ _ _ _ (pv 0) rfl) Yc (by rfl)) (by decide +kernel) (by rfl) (by rfl) (by decide) (by decide) (by rfl) (by rfl)) Yh) (@Ya _ _ _ _ _ (@WO _ _ _ _ _ _ Ws Yh) (@Ya _ _ _ _ _ (@WO _ _ _ _ _ _ Ws Yh) Yc (by rfl)) (by rfl)) (by rfl)) (by rfl) (by rfl)) (@Yu _ _ (2) _ Ji.nd rfl (.inl rfl) (by first | exact .inl rfl | exact .inr rfl | assumption)) (@Yf _ _ _ Yy) (by intro _;rfl)))),?_⟩;have nT:T≠w:=YI hT hw (by intro z;cases z);have nL:L≠w:=YI hL hw (by intro z;cases z);refine Yp fun R rr=>?_
 walk_at "rd";refine ⟨_,_,_,hT,Zf,Zd,_,V2 _ _,_,rfl,_,ao.of hL,_,rfl,.inl ⟨rfl,_,ao.of hw⟩,w,rfl,_,hw,few (by decide),rr _ _ ?_⟩;have s1:SameBut w H (upd H w (.lst ([]++[.int 1]))):=fun b o nb e=>by rw [Yg nb];exact e
 have hw1:upd H w (.lst ([]++[.int 1])) w=some (.lst [.int 1]):=Yb;generalize upd H w (.lst ([]++[.int 1]))=H1 at s1 hw1;refine YcD (n:=0) (fun i σ H'=>H'=H1) (fun R r=>?_) (by decide) rfl (fun i σ H' hi=>by omega) (fun σ H' e=>by subst e;exact q _ s1 hw1);walk_at "rd";refine ⟨_,_,_,s1 _ _ nT hT,Zf,Zh,_,YeP _ _,_,rfl,_,.inl (ao.of (s1 _ _ nP hP)),?_⟩;exact r
inductive uo (C:Cs) (vs:List V) (H:Hp) (Q:VK) (E_:XK):Prop
 | mk (T dt Pp L w:Addr) (h0:vs=[.ref T,.int 0,.int 0]) (h1:H T=some (.ins C.tab dt (Vb Pp L))) (h2:H Pp=some (.lst [])) (h3:H L=some (.lst [.ref w])) (h4:H w=some (.lst [])) (h5:Pp≠w) (h6:∀ H',SameBut w H H'->H' w=some (.lst [.int 1])->Q (.int 1) H')
theorem Z2t {k:Nat} {Z0 Z1:Addr} (R:g.bC Z1 "ways_at" "RowTable.ways_at" zq ["self","place","left"]) (Z2u:g.Me k Z1 "add_size" ["self","size"] (um (Cs.mk Z0 Z1))) (aA:g.mg "len"=none) (Zf:Cls g.K Z1) (Zh:Yt g.K Z1 "parts") (Zd:Yt g.K Z1 "ways"):g.Me (k+1) Z1 "ways_at" ["self","place","left"] (uo (Cs.mk Z0 Z1)):=by
 refine R.me Z2p (fun vs H Q E h=>by obtain ⟨T,dt,Pp,L,w,rfl,hT,hP,hL,hw,nP,q⟩:=h;rfl) fun f_ cdv A outer s H vs Q E hr h=>?_
 obtain ⟨T,dt,Pp,L,w,rfl,hT,hP,hL,hw,nP,q⟩:=h;refine ⟨_,(@Yd _ _ _ _ _ (@Wg _ _ _ _ _ _ ae (@Yq _ _ _ _ _ _ _ _ QT (@YG _ _ _ _ _ _ _ _ _ _ aA YB (@Ya _ _ _ _ _ (@Yv _ _ _ _ _ _ _ Y9 (@Xl _ _ _ _ _ (pv 0) rfl) (@WO _ _ _ _ _ _ Ws Yh) (fun _ _=>rfl)) Yc (by rfl)) (by decide +kernel) (by rfl) (by rfl) (by decide) (by decide) (by rfl) (by rfl)) (pv 2) (Yo _)) (@Yf _ _ _ (@Y0 _ _ _ _ (@Wb _ _ _ _ _ _ _ _ _ _ _ _ _ _ _ _ Z2u Zf hr (pv 0) (@Ya _ _ _ _ _ (@YG _ _ _ _ _ _ _ _ _ _ aA YB (@Ya _ _ _ _ _ (@Yv _ _ _ _ _ _ _ Y9 (@Xl _ _ _ _ _ (pv 0) rfl) (@WO _ _ _ _ _ _ Ws Yh) (fun _ _=>rfl)) Yc (by rfl)) (by decide +kernel) (by rfl) (by rfl) (by decide) (by decide) (by rfl) (by rfl)) Yc (by rfl)) (by omega) (by rfl) (by rfl) (by rfl) (by rfl)) (by rfl)))) (@Yf _ _ _ (@Yl _ _ _ _ (@Yv _ _ _ _ _ _ _ Y9 (@Yv _ _ _ _ _ _ _ Y9 (@Xl _ _ _ _ _ (pv 0) rfl) (pv 1) (fun _ _=>rfl)) (pv 2) (fun _ _=>rfl))))),?_⟩;have nT:T≠w:=YI hT hw (by intro z;cases z);have nL:L≠w:=YI hL hw (by intro z;cases z);walk_at "rd";refine Wi (α:=Bool) (fun x σ H'=>σ=[some (.ref T),some (.int 0),some (.int 0)]/\SameBut w H H'/\H' w=some (.lst (cn x))) (fun x => !x) (fun x=>if x then 0 else 1) false ⟨rfl,fun _ _ _ e=>e,hw⟩ ?_ ?_ ?_
 ·rintro x σ H' ⟨rfl,sb,hw'⟩ R r
  walk_at "rd";refine ⟨_,_,_,sb _ _ nT hT,Zf,Zd,_,V2 _ _,_,rfl,_,ao.of (sb _ _ nL hL),_,rfl,_,rfl,_,.inl (ao.of hw'),?_⟩;have:=r H' ⟨rfl,sb,hw'⟩
  cases x<;>exact this
 ·rintro x σ H' ⟨rfl,sb,hw'⟩ hx
  have hx:x=false:=by simpa using hx
  subst hx;have hT':=sb _ _ nT hT;have hL':=sb _ _ nL hL;walk_at "rd";exact ⟨_,_,hT',Eo _ _,_,_,_,hT',Zf,Zd,_,V2 _ _,_,rfl,_,ao.of hL',_,rfl,_,rfl,_,.inl (ao.of hw'),T,dt,Pp,L,w,rfl,hT',sb _ _ nP hP,hL',hw',nP,fun H2 uq hw2=>⟨fun b o nb e=>uq _ _ nb (sb b o nb e),true,hw2,by decide⟩⟩
 ·rintro x σ H' ⟨rfl,sb,hw'⟩ hx
  have hx:x=true:=by simpa using hx
  subst hx;walk_at "rd";exact ⟨_,_,_,sb _ _ nT hT,Zf,Zd,_,V2 _ _,_,rfl,_,ao.of (sb _ _ nL hL),_,Yk (j:=0) rfl,_,rfl,_,ao.of hw',_,Yk (j:=0) rfl,q H' sb hw'⟩
structure Rm (C:Cs) (H:Hp) (p dx c Pp T dt L w:Addr):Prop where
 hp:H p=some (.ins C.row dx (mf c (fR Pp T)))
 hP:H Pp=some (.lst [])
 hT:H T=some (.ins C.tab dt (Vb Pp L))
 hL:H L=some (.lst [.ref w])
 nP:Pp≠w
 nc:c≠w
 jO:Pp≠c
 mC:L≠c
inductive ur (C:Cs) (vs:List V) (H:Hp) (Q:VK) (E_:XK):Prop
 | mk (p dx c Pp T dt L w:Addr) (h0:vs=[.ref p,.int 0]) (h1:Rm C H p dx c Pp T dt L w) (h2:H w=some (.lst [])) (h3:∀ H',SameBut w H H'->H' w=some (.lst [.int 1])->Q (.int 1) H')
theorem Z29 {k:Nat} {Z0 Z1:Addr} (R:g.bC Z0 "reckoned" "RowMaker.reckoned" ZZ ["self","size"]) (Z2W:g.Me k Z1 "ways_at" ["self","place","left"] (uo (Cs.mk Z0 Z1))) (Z7:Cls g.K Z0) (Z6:Yt g.K Z0 "counts") (Z9:Yt g.K Z0 "parts") (Za:Yt g.K Z0 "table") (Zf:Cls g.K Z1) (Zh:Yt g.K Z1 "parts") (Zd:Yt g.K Z1 "ways"):g.Me (k+1) Z0 "reckoned" ["self","size"] (ur (Cs.mk Z0 Z1)):=by
 refine R.me Z24 (fun vs H Q E h=>by obtain ⟨p,dx,c,Pp,T,dt,L,w,rfl,rm,hw,q⟩:=h;rfl) fun f_ cdv A outer s H vs Q E hr h=>?_
 obtain ⟨p,dx,c,Pp,T,dt,L,w,rfl,rm,hw,q⟩:=h;refine ⟨_,(@Yf _ _ _ (@Yl _ _ _ _ (@Wb _ _ _ _ _ _ _ _ _ _ _ _ _ _ _ _ Z2W Zf hr (@Xl _ _ _ _ _ (pv 0) rfl) (@Ya _ _ _ _ _ Yh (@Ya _ _ _ _ _ (pv 1) Yc (by rfl)) (by rfl)) (by omega) (by rfl) (by rfl) (by rfl) (by rfl)))),?_⟩;walk_at "rd";exact ⟨_,_,_,rm.hp,Z7,Za,_,YeO _ _ _,T,rfl,_,_,rm.hT,Yg0 _ _,T,dt,Pp,L,w,rfl,rm.hT,rm.hP,rm.hL,hw,rm.nP,q⟩
inductive uw (C:Cs) (vs:List V) (H:Hp) (Q:VK) (E_:XK):Prop
 | mk (p dx c Pp T dt L w:Addr) (n:Bool) (h0:vs=[.ref p,.int 0]) (h1:Rm C H p dx c Pp T dt L w) (h2:H c=some (.lst (cn n))) (h3:H w=some (.lst (cn n))) (h4:∀ H',(∀ b o,b≠c->b≠w->H b=some o->H' b=some o)->H' c=some (.lst [.int 1])->H' w=some (.lst [.int 1])->Q (.int 1) H')
theorem Z2a {k:Nat} {Z0 Z1:Addr} (R:g.bC Z0 "count_at" "Maker.count_at" zE ["self","size"]) (Z2v:g.Me k Z0 "reckoned" ["self","size"] (ur (Cs.mk Z0 Z1))) (aA:g.mg "len"=none) (Z7:Cls g.K Z0) (Z6:Yt g.K Z0 "counts") (Z9:Yt g.K Z0 "parts") (Za:Yt g.K Z0 "table"):g.Me (k+1) Z0 "count_at" ["self","size"] (uw (Cs.mk Z0 Z1)):=by
 refine R.me Z25 (fun vs H Q E h=>by obtain ⟨p,dx,c,Pp,T,dt,L,w,n,rfl,rm,hc,hw,q⟩:=h;rfl) fun f_ cdv A outer s H vs Q E hr h=>?_
 obtain ⟨p,dx,c,Pp,T,dt,L,w,n,rfl,rm,hc,hw,q⟩:=h;refine ⟨_,(@Yd _ _ _ _ _ (@Wg _ _ _ _ _ _ ae (@Yq _ _ _ _ _ _ _ _ QT (@YG _ _ _ _ _ _ _ _ _ _ aA YB (@Ya _ _ _ _ _ (@Xl _ _ _ _ _ (pv 0) rfl) Yc (by rfl)) (by decide +kernel) (by rfl) (by rfl) (by decide) (by decide) (by rfl) (by rfl)) (pv 1) (Yo _)) (@Yf _ _ _ (@Y0 _ _ _ _ (@Xw _ _ _ _ _ _ _ _ _ _ _ _ bb bc bj Y6 (@Xl _ _ _ _ _ (pv 0) rfl) (@Ya _ _ _ _ _ (@Wb _ _ _ _ _ _ _ _ _ _ _ _ _ _ _ _ Z2v Z7 hr (pv 0) (@Ya _ _ _ _ _ (@YG _ _ _ _ _ _ _ _ _ _ aA YB (@Ya _ _ _ _ _ (@Xl _ _ _ _ _ (pv 0) rfl) Yc (by rfl)) (by decide +kernel) (by rfl) (by rfl) (by decide) (by decide) (by rfl) (by rfl)) Yc (by rfl)) (by omega) (by rfl) (by rfl) (by rfl) (by rfl)) Yc (by rfl)) (by rfl) (by rfl) (by rfl) (by rfl) (by rfl)) (by rfl)))) (@Yf _ _ _ (@Yl _ _ _ _ (@Yv _ _ _ _ _ _ _ Y9 (@Xl _ _ _ _ _ (pv 0) rfl) (pv 1) (fun _ _=>rfl))))),?_⟩;have zW:p≠c:=YI rm.hp hc (by intro z;cases z);have pI:p≠w:=YI rm.hp hw (by intro z;cases z);walk_at "rd";refine Wi (α:=Bool) (fun x σ H'=>σ=[some (.ref p),some (.int 0)]/\(∀ b o,b≠c->b≠w->H b=some o->H' b=some o)/\H' c=some (.lst (cn x))/\H' w=some (.lst (cn x))) (fun x => !x) (fun x=>if x then 0 else 1) n ⟨rfl,fun _ _ _ _ e=>e,hc,hw⟩ ?_ ?_ ?_
 ·rintro x σ H' ⟨rfl,sb,hc',hw'⟩ R r
  walk_at "rd";refine ⟨_,_,_,sb _ _ zW pI rm.hp,Z7,Z6,_,WV _ _,_,rfl,_,.inl (ao.of hc'),?_⟩;have:=r H' ⟨rfl,sb,hc',hw'⟩
  cases x<;>exact this
 ·rintro x σ H' ⟨rfl,sb,hc',hw'⟩ hx
  have hx:x=false:=by simpa using hx
  subst hx;have hp':=sb _ _ zW pI rm.hp;have nTc:T≠c:=YI rm.hT hc (by intro z;cases z);have nTw:T≠w:=YI rm.hT hw (by intro z;cases z);have zX:L≠w:=YI rm.hL hw (by cases n<;>(intro z;cases z));have rm':Rm (Cs.mk Z0 Z1) H' p dx c Pp T dt L w:=⟨hp',sb _ _ rm.jO rm.nP rm.hP,sb _ _ nTc nTw rm.hT,sb _ _ rm.mC zX rm.hL,rm.nP,rm.nc,rm.jO,rm.mC⟩;walk_at "rd";refine ⟨_,_,_,hp',Z7,Z6,_,WV _ _,.inl ⟨rfl,_,ao.of hc'⟩,_,_,hp',En _ _ _,_,_,_,hp',Z7,Z6,_,WV _ _,_,rfl,_,.inl (ao.of hc'),p,dx,c,Pp,T,dt,L,w,rfl,rm',hw',fun H2 uq hw2=>?_⟩;have hc2:=uq _ _ rm.nc hc';exact ⟨c,rfl,_,hc2,few (by decide),fun b o n1 n2 e=>by rw [Yg n1];exact uq _ _ n2 (sb b o n1 n2 e),true,Yb,by rw [Yg (ω rm.nc)];exact hw2,by decide⟩
 ·rintro x σ H' ⟨rfl,sb,hc',hw'⟩ hx
  have hx:x=true:=by simpa using hx
  subst hx;walk_at "rd";exact ⟨_,_,_,sb _ _ zW pI rm.hp,Z7,Z6,_,WV _ _,_,rfl,_,ao.of hc',_,Yk (j:=0) rfl,q H' sb hc' hw'⟩
inductive ux (C:Cs) (vs:List V) (H:Hp) (Q:VK) (E_:XK):Prop
 | mk (p dx c Pp T dt L w:Addr) (h0:vs=[.ref p,.int 0,.int 0]) (h1:Rm C H p dx c Pp T dt L w) (h2:∀ b H',Ye H H'->H b=none->H' b=some (.tup [])->Q (.ref b) H')
theorem Z2b {Z0 Z1:Addr} (R:g.bC Z0 "value_at" "RowMaker.value_at" zu ["self","size","number"]) (Zi:g.mg "enumerate"=none) (Z5:g.mg "tuple"=none) (Z7:Cls g.K Z0) (Z6:Yt g.K Z0 "counts") (Z9:Yt g.K Z0 "parts") (Za:Yt g.K Z0 "table"):g.Me (1) Z0 "value_at" ["self","size","number"] (ux (Cs.mk Z0 Z1)):=by
 refine R.me Zo (fun vs H Q E h=>by obtain ⟨p,dx,c,Pp,T,dt,L,w,rfl,rm,q⟩:=h;rfl) fun f_ cdv A outer s H vs Q E hr h=>?_
 obtain ⟨p,dx,c,Pp,T,dt,L,w,rfl,rm,q⟩:=h;refine ⟨_,(@Yd _ _ _ _ _ (@Yr _ _ (3) _ _ _ _ Zo.nd rfl (.inl rfl) (@YU _ _ _ _ Yc) (by rfl) (by first | exact .inl rfl | exact .inr rfl | assumption)) (@Yd _ _ _ _ _ (@Yr _ _ (4) _ _ _ _ Zo.nd rfl (.inl rfl) (pv 1) (by rfl) (by first | exact .inl rfl | exact .inr rfl | assumption)) (@Yd _ _ _ _ _ (@Yr _ _ (5) _ _ _ _ Zo.nd rfl (.inl rfl) (pv 2) (by rfl) (by first | exact .inl rfl | exact .inr rfl | assumption)) (@Yd _ _ _ _ _ (@Xo _ _ _ _ _ _ _ _ ae rfl (@Ui _ _ _ _ _ _ _ _ rfl Zi (@Ya _ _ _ _ _ (@Xl _ _ _ _ _ (pv 0) rfl) Yc (by rfl)) (by rfl)) (@WH _ _ _ _ _ (2) rfl (@Y7 _ _ _ _ _ (@Yu _ _ (6) _ Zo.nd rfl (.inl rfl) (by first | exact .inl rfl | exact .inr rfl | assumption)) (@Y7 _ _ _ _ _ (@Yu _ _ (7) _ Zo.nd rfl (.inl rfl) (by first | exact .inl rfl | exact .inr rfl | assumption)) Wf (by rfl)) (by rfl)) (by rfl) (by rfl)) (@Yd _ _ _ _ _ Yy (@Yd _ _ _ _ _ Yy (@Yd _ _ _ _ _ Yy (@Yf _ _ _ Yy)))) (by intro _;rfl)) (@Yf _ _ _ (@Yl _ _ _ _ (@Wp _ _ _ _ _ _ _ _ _ _ Z5 Xn (@Ya _ _ _ _ _ (pv 3) Yc (by rfl)) (by decide +kernel) (by rfl) (by rfl) (by decide) (by decide) (by rfl) (by rfl)))))))),?_⟩;walk_at "rd";refine ⟨few (by decide),fun X gX=>?_⟩;have sX:=Ye.aj gX (.lst []);refine Vn (K:=g.K) (a:=Pp) (xs:=[]) (fun i σ H'=>σ=[some (V.ref p),some (V.int 0),some (V.int 0),some (V.ref X),some (V.int 0),some (V.int 0),none,none,none]/\H'=upd H X (.lst [])) (fun R r=>?_) ⟨rfl,rfl⟩ (fun i σ H' _ ⟨_,e⟩=>by rw [e];exact ao.of (sX _ _ rm.hP)) (fun i x σ H' T' hx=>by cases hx) ?_
 ·walk_at "rd"
  exact ⟨_,_,_,sX _ _ rm.hp,Z7,Z9,_,YeN _ _ _,r⟩
 ·rintro σ H' ⟨rfl,rfl⟩
  walk_at "rd";exact ⟨_,.inl ⟨ao.of Yb,fun l gl=>q l _ (sX.trans (.aj gl _)) (sX.free gl) Yb⟩⟩
inductive eV (C:Cs) (H:Hp):Addr->List Addr->Prop
 | mk (p dx c Pp T dt L w:Addr) (n:Bool) (h:Rm C H p dx c Pp T dt L w) (hc:H c=some (.lst (cn n))) (hw:H w=some (.lst (cn n))):eV C H p [c,w,Pp,L]
inductive uy (C:Cs) (vs:List V) (H:Hp) (Q:VK) (E_:XK):Prop
 | mk (p:Addr) (ms:List Addr) (n:Nat) (h0:vs=[.ref p,.int (n:Nat)]) (h1:n<=1000) (h2:eV C H p ms) (h3:(n=0->Q .non H)) (h4:(0<n->∀ b H',(∀ b o,b∉ms->H b=some o->H' b=some o)->eV C H' p ms->H b=none->H' b=some (.tup [])->Q (.ref b) H'))
theorem Z3L {k:Nat} {Z0 Z1:Addr} (R:g.Raw "least_below" "least_below" yC ["maker","below"]) (Z2w:g.Me k Z0 "value_at" ["self","size","number"] (ux (Cs.mk Z0 Z1))) (Z2x:g.Me k Z0 "count_at" ["self","size"] (uw (Cs.mk Z0 Z1))) (Ze:g.mg "range"=none) (Z7:Cls g.K Z0) (Z6:Yt g.K Z0 "counts") (Z9:Yt g.K Z0 "parts") (Za:Yt g.K Z0 "table"):g.Fn (k+1) "least_below" ["maker","below"] (uy (Cs.mk Z0 Z1)):=by
 refine R.fn Jf (fun vs H Q E h=>by obtain ⟨p,ms,n,rfl,hn,hm,q0,q1⟩:=h;rfl) fun f_ cdv A outer s H vs Q E hr h=>?_
 obtain ⟨p,ms,n,rfl,hn,hm,q0,q1⟩:=h;refine ⟨_,(@Yd _ _ _ _ _ (@Xo _ _ _ _ _ _ _ _ ae rfl (@XB _ _ _ _ _ _ rfl Ze (@Ya _ _ _ _ _ (pv 1) Yc (by rfl)) (by rfl)) (@Yu _ _ (2) _ Jf.nd rfl (.inl rfl) (by first | exact .inl rfl | exact .inr rfl | assumption)) (@Yf _ _ _ (@Yx _ _ _ _ _ _ _ _ (@Yq _ _ _ _ _ _ _ _ Us (@Wb _ _ _ _ _ _ _ _ _ _ _ _ _ _ _ _ Z2x Z7 hr (pv 0) (@Ya _ _ _ _ _ (pv 2) Yc (by rfl)) (by omega) (by rfl) (by rfl) (by rfl) (by rfl)) Yh (Yo _)) (@Yf _ _ _ (@Yl _ _ _ _ (@Wb _ _ _ _ _ _ _ _ _ _ _ _ _ _ _ _ Z2w Z7 hr (pv 0) (@Ya _ _ _ _ _ (pv 2) (@Ya _ _ _ _ _ Yh Yc (by rfl)) (by rfl)) (by omega) (by rfl) (by rfl) (by rfl) (by rfl)))) Ym)) (by intro _;rfl)) (@Yf _ _ _ (@Yl _ _ _ _ XF))),?_⟩;walk_at "rd";refine Ua (n:=n) (fun i σ H'=>i=0/\σ=[some (.ref p),some (.int n),none]/\H'=H) (fun R r=>?_) (by omega) ⟨rfl,rfl,rfl⟩ ?_ ?_
 ·walk_at "rd";exact r
 ·rintro i σ H' hi ⟨rfl,rfl,rfl⟩
  have q1:=q1 (by omega)
  cases hm with | mk dx c Pp T dt L w nn rm hc hw =>
  walk_at "rd";refine ⟨_,_,rm.hp,YgY _ _ _,p,dx,c,Pp,T,dt,L,w,nn,rfl,rm,hc,hw,fun H2 sb hc2 hw2=>?_⟩;have hp2:=sb _ _ (YI rm.hp hc (by intro z;cases z)) (YI rm.hp hw (by intro z;cases z)) rm.hp;have zX:L≠w:=YI rm.hL hw (by cases nn<;>(intro z;cases z));have pJ:Rm (Cs.mk Z0 Z1) H2 p dx c Pp T dt L w:=⟨hp2,sb _ _ rm.jO rm.nP rm.hP,sb _ _ (YI rm.hT hc (by intro z;cases z)) (YI rm.hT hw (by intro z;cases z)) rm.hT,sb _ _ rm.mC zX rm.hL,rm.nP,rm.nc,rm.jO,rm.mC⟩;refine ⟨_,rfl,Xx (by decide) ⟨_,_,hp2,YgZ _ _ _,p,dx,c,Pp,T,dt,L,w,rfl,pJ,fun b H3 s3 gb hb=>q1 b H3 (fun x o nx e=>s3 _ _ (sb x o (fun z=>nx (by rw [z];exact .head _)) (fun z=>nx (by rw [z];exact .tail _ (.head _))) e)) ?_ ?_ hb⟩⟩
  ·exact .mk p dx c Pp T dt L w true ⟨s3 _ _ pJ.hp,s3 _ _ pJ.hP,s3 _ _ pJ.hT,s3 _ _ pJ.hL,rm.nP,rm.nc,rm.jO,rm.mC⟩ (s3 _ _ hc2) (s3 _ _ hw2)
  ·cases e:H' b with
   | none=>rfl
   | some o =>
    exfalso;by_cases c1:b=c
    ·rw [c1,hc2] at gb;cases gb
    by_cases c2:b=w
    ·rw [c2,hw2] at gb;cases gb
    rw [sb b o c1 c2 e] at gb;cases gb
 ·rintro σ H' ⟨e,rfl,rfl⟩
  walk_at "rd";exact q0 (by omega)
def pK (H:Hp) (a:Addr):Prop:=∃ b,H a=some (.tup [.str "row",.ref b])/\H b=some (.tup [])
theorem pK.dk {K:Κ} {H:Hp} {a:Addr} (h:pK H a):DK K H a cD:=by
 obtain ⟨b,h1,h2⟩:=h;exact ⟨.tup (aq.of h1) (.cons (.str _ (by decide +kernel)) (.cons (.tup (aq.of h2) .nil) .nil)),.tup (.cons (.str _) (.cons (.tup .nil) .nil)),by simp [aE,χ]⟩
structure Li (P:Ο) (w:ε) (K:Κ) (C:Cs) (CL:Addr) (H:Hp) (ls dl d:Addr) (b:V) (f:Option (Addr×List Addr)) (xs:Dx):Prop where
 hl:H ls=some (.ins CL dl (lf b d))
 hd:bL P w K H d xs
 len:xs.length=f.toList.length
 lk:bw xs cD=f.map (·.1)
 pL:∀ p ms,f=some (p,ms)->eV C H p ms
inductive uz (K:Κ) (vs:List V) (H:Hp) (Q:VK) (E_:XK):Prop
 | mk (a b:Addr) (h0:vs=[.ref a]) (h1:H a=some (.tup [.str "row",.ref b])) (h2:H b=some (.tup [])) (h3:∀ D H',Ye H H'->H D=none->H' D=some (.lst [])->Q (.ref D) H')
theorem Ya6  (R:g.Raw "parts_of" "parts_of" xT ["shape"]) (aH:g.mg "list"=none):g.Fn (1) "parts_of" ["shape"] (uz g.K):=by
 refine R.fn Ja (fun vs H Q E h=>by obtain ⟨a,b,rfl,ha,hb,q⟩:=h;rfl) fun f_ cdv A outer s H vs Q E hr h=>?_
 obtain ⟨a,b,rfl,ha,hb,q⟩:=h;refine ⟨_,(@Yd _ _ _ _ _ (@Yr _ _ (1) _ _ _ _ Ja.nd rfl (.inl rfl) (@Yv _ _ _ _ _ _ _ YD (pv 0) Yh (fun _ _=>rfl)) (by rfl) (by first | exact .inl rfl | exact .inr rfl | assumption)) (@Yd _ _ _ _ _ (@Yx _ _ _ _ _ _ _ _ (@Yq _ _ _ _ _ _ _ _ YK (pv 1) YC (Yo _)) (@Yf _ _ _ (@Yl _ _ _ _ (@Wp _ _ _ _ _ _ _ _ _ _ aH VB (@Ya _ _ _ _ _ (@Yv _ _ _ _ _ _ _ YD (pv 0) Yh (fun _ _=>rfl)) Yc (by rfl)) (by decide +kernel) (by rfl) (by rfl) (by decide) (by decide) (by rfl) (by rfl)))) Ym) (@Yd _ _ _ _ _ Yy (@Yd _ _ _ _ _ Yy (@Yf _ _ _ Yy))))),?_⟩;refine Yp fun R rr=>?_
 walk_at "rd";refine ⟨_,aq.of ha,_,Yk (j:=0) rfl,rr _ _ (cR rfl rfl ?_)⟩;walk_at "rd";exact ⟨_,aq.of ha,_,Yk (j:=1) rfl,_,rfl,_,.inr (aq.of hb),fun l hl=>q l _ (.aj hl _) hl Yb⟩
inductive uD (K:Κ) (C:Cs) (vs:List V) (H:Hp) (Q:VK) (E_:XK):Prop
 | mk (s:V) (a:Addr) (h0:vs=[s,.ref a]) (h1:pK H a) (h2:∀ p ms H',Ye H H'->eV C H' p ms->(∀ x∈ms,H x=none)->Q (.ref p) H')
theorem Z2y {k:Nat} {Z4 Z0 Z1:Addr} (R:g.bC Z4 "new_maker" "Lister.new_maker" zp ["self","shape"]) (m6:g.Fn k "parts_of" ["shape"] (uz g.K)) {cN:Nat} (Z2z:g.Ma cN "RowMaker" Z0 ["self","parts"] (Jx (Cs.mk Z0 Z1))) (n6:cN+1<=k):g.Me (k+1) Z4 "new_maker" ["self","shape"] (uD g.K (Cs.mk Z0 Z1)):=by
 refine R.me ZV (fun vs H Q E h=>by obtain ⟨s,a,rfl,⟨b,h1,h2⟩,q⟩:=h;rfl) fun f_ cdv A outer s H vs Q E hr h=>?_
 obtain ⟨s,a,rfl,⟨b,h1,h2⟩,q⟩:=h;refine ⟨_,(@Yd _ _ _ _ _ (@Yr _ _ (2) _ _ _ _ ZV.nd rfl (.inl rfl) (@Yv _ _ _ _ _ _ _ YD (pv 1) Yh (fun _ _=>rfl)) (by rfl) (by first | exact .inl rfl | exact .inr rfl | assumption)) (@Yd _ _ _ _ _ (@Yx _ _ _ _ _ _ _ _ (@Yq _ _ _ _ _ _ _ _ YK (pv 2) YC (Yo _)) (@Yf _ _ _ Yy) Ym) (@Yd _ _ _ _ _ (@Yx _ _ _ _ _ _ _ _ (@Yq _ _ _ _ _ _ _ _ YK (pv 2) YC (Yo _)) (@Yf _ _ _ Yy) Ym) (@Yd _ _ _ _ _ (@U3 _ (3) _ _ _ _ _ _ _ _ _ ([none,some 0]) ((["part","self"]:List Str)) _ (YE 0) _ _ ZV.nd rfl (.inl rfl) (.own (.cap (i:=0) rfl rfl (by first | exact .inl rfl | exact .inr rfl) .nil)) rfl (@YW _ _ _ _ (@Ys _ _ _ _ _ _ _ _ _ _ _ _ m6 hr (@Ya _ _ _ _ _ (pv 1) Yc (by rfl)) (by omega) (by rfl) (by rfl) (by decide) (by rfl) (by rfl))) (fun cl C s₀ H₀ fp pn=>(@Yu _ _ (0) _ (show aI (["part","self"]:List Str) by decide +kernel) rfl (.inl rfl) (.inr rfl))) (fun cl C s₀ H₀ fp pn=>YV) (fun cl C s₀ H₀ fp pn=>Yex) (by intro x hx;simp at hx;first | (subst hx;exact .inl rfl) | (rcases hx with rfl | rfl<;>exact .inl rfl) | (rcases hx with rfl | rfl | rfl<;>exact .inl rfl) | (rcases hx with rfl | rfl | rfl | rfl<;>exact .inl rfl) | (rcases hx with rfl | rfl | rfl | rfl | rfl<;>exact .inl rfl)) (by rfl) (by decide) (by decide +kernel) (by intro _;rfl) (by rfl) (by first | exact .inl rfl | exact .inr rfl | assumption)) (@Yd _ _ _ _ _ (@Yx _ _ _ _ _ _ _ _ (@Yq _ _ _ _ _ _ _ _ YK (pv 2) YC (Yo _)) (@Yf _ _ _ (@Yl _ _ _ _ (@QW _ _ _ _ _ _ _ _ _ _ _ _ _ Z2z hr (@Ya _ _ _ _ _ (pv 3) Yc (by rfl)) (by omega) (by rfl) (by rfl) (by decide) (by rfl) (by rfl)))) Ym) (@Yd _ _ _ _ _ Yy (@Yd _ _ _ _ _ Yy (@Yd _ _ _ _ _ Yy (@Yf _ _ _ Yy))))))))),?_⟩;refine Yp fun R rr=>?_
 walk_at "rd";refine ⟨_,aq.of h1,_,Yk (j:=0) rfl,rr _ _ (aR rfl (by decide +kernel) (aR rfl (by decide +kernel) (Yp fun R rr=>?_)))⟩;refine ⟨a,b,rfl,h1,h2,fun D H1 s1 gD hD=>?_⟩;refine X0 (K:=g.K) (tl:=tC (.ref D)) (xs:=[]) [] (fun R r=>r D H1 (.refl H1) (ao.of hD)) rfl (by decide) (fun i x y H' hx=>by cases hx) (fun Pp H2 gP s2 hP=>rr _ _ (cR rfl rfl ?_));walk_at "rd";intro p dx gp JF hne;have sP:(upd (upd H2 dx (.own p)) p (.ins Z0 dx [])) Pp=some (.lst []):=by rw [Yg (Yj hP gp),Yg (Yj hP JF)];exact hP
 refine ⟨p,dx,Pp,[],rfl,Yb,sP,by decide,fun c T dt L ws H3 gc gT gL uf hnd hwl sb pH uh zT pG ug=>⟨rfl,?_⟩⟩
 match ws,hwl with
 | [w],_ =>
 have s3:=VN gp JF sb;have hnd':=aS.mp hnd;have zU:c≠w:=fun z=>hnd'.1 (by rw [z];exact .head _)
 have gw:=uf w (.head _);have hw3:=ug w (.head _);have JG:∀ {x:Addr},(upd (upd H2 dx (.own p)) p (.ins Z0 dx [])) x=none->Pp≠x:=fun g=>Yj sP g
 have rm:Rm (Cs.mk Z0 Z1) H3 p dx c Pp T dt L w:=⟨pH,s3 _ _ hP,zT,pG,JG gw,zU,JG gc,YI pG uh (by intro z;cases z)⟩;refine q p [c,w,Pp,L] H3 ((s1.trans s2).trans s3) (.mk p dx c Pp T dt L w false rm uh hw3) (fun x hx=>?_);have fr:∀ {x:Addr},(upd (upd H2 dx (.own p)) p (.ins Z0 dx [])) x=none->H x=none:=fun g=>(s1.trans s2).free (Xy (Xy g))
 rcases Υ.mp hx with rfl | hx
 ·exact fr gc
 rcases Υ.mp hx with rfl | hx
 ·exact fr gw
 rcases Υ.mp hx with rfl | hx
 ·exact s1.free gP
 ·cases ς.mp hx;exact fr gL
theorem eV.ls {C:Cs} {H:Hp} {p:Addr} {ms:List Addr} (h:eV C H p ms):∀ x∈ms,∃ ys,H x=some (.lst ys):=fun x hx=>by
 cases h with
 | mk dx c Pp T dt L' w n rm hc hw =>
  rcases Υ.mp hx with rfl | hx
  ·exact ⟨_,hc⟩
  rcases Υ.mp hx with rfl | hx
  ·exact ⟨_,hw⟩
  rcases Υ.mp hx with rfl | hx
  ·exact ⟨_,rm.hP⟩
  ·cases ς.mp hx;exact ⟨_,rm.hL⟩
theorem eV.stay {C:Cs} {H H':Hp} {p:Addr} {ms:List Addr} (h:eV C H p ms) (s:∀ x o,(∀ ys,o = .lst ys->x∈ms)->(∀ φ,o ≠ .ext φ)->H x=some o->H' x=some o):eV C H' p ms:=by
 cases h with
 | mk dx c Pp T dt L w n rm hc hw =>
  have hi:∀ {x a b:Addr} {fs:List (Str×V)},H x=some (.ins a b fs)->H' x=some (.ins a b fs):=fun e=>s _ _ (by intro ys z;cases z) (by intro φ z;cases z) e
  have hl:∀ {x:Addr} {ys:List V},x∈[c,w,Pp,L]->H x=some (.lst ys)->H' x=some (.lst ys):=fun m e=>s _ _ (fun _ _=>m) (by intro φ z;cases z) e
  exact .mk p dx c Pp T dt L w n ⟨hi rm.hp,hl (by simp) rm.hP,hi rm.hT,hl (by simp) rm.hL,rm.nP,rm.nc,rm.jO,rm.mC⟩ (hl (by simp) hc) (hl (by simp) hw)
def mu (d:Addr) (f:Option (Addr×List Addr)) (x:Addr):Prop:=x=d\/∃ p ms,f=some (p,ms)/\x∈ms
structure Go (d:Addr) (H:Hp) (f:Option (Addr×List Addr)) (H':Hp) (f':Option (Addr×List Addr)):Prop where
 fr:∀ x o,¬ mu d f x->H x=some o->H' x=some o
 al:∀ x,H' x=none->H x=none
 nw:∀ x,mu d f' x->mu d f x\/H x=none
inductive uE (P:Ο) (w:ε) (K:Κ) (C:Cs) (CL:Addr) (vs:List V) (H:Hp) (Q:VK) (E_:XK):Prop
 | mk (ls dl d:Addr) (b:V) (f:Option (Addr×List Addr)) (xs:Dx) (a:Addr) (h0:vs=[.ref ls,.ref a]) (h1:Li P w K C CL H ls dl d b f xs) (h2:pK H a) (h3:∀ p ms H' xs',Li P w K C CL H' ls dl d b (some (p,ms)) xs'->Go d H f H' (some (p,ms))->Q (.ref p) H')
theorem Z2X {k:Nat} {Z4 Z0 Z1:Addr} (R:g.bC Z4 "maker_of" "Lister.maker_of" zm ["self","shape"]) (Z2Y:g.Me k Z4 "new_maker" ["self","shape"] (uD g.K (Cs.mk Z0 Z1))) (Zm:Cls g.K Z4) (Zq:Yt g.K Z4 "book") (Zg:Yt g.K Z4 "makers"):g.Me (k+1) Z4 "maker_of" ["self","shape"] (uE g.P g.w g.K (Cs.mk Z0 Z1) Z4):=by
 refine R.me Z2R (fun vs H Q E h=>by obtain ⟨ls,dl,d,b,f,xs,a,rfl,L,hk,q⟩:=h;rfl) fun f_ cdv A outer s H vs Q E hr h=>?_
 obtain ⟨ls,dl,d,b,f,xs,a,rfl,L,hk,q⟩:=h;refine ⟨_,(@Yd _ _ _ _ _ (@Yx _ _ _ _ _ _ _ _ (@Yq _ _ _ _ _ _ _ _ (Ycw hr) (pv 1) (@Xl _ _ _ _ _ (pv 0) rfl) rfl) (@Yf _ _ _ (@Yx _ _ _ _ _ _ _ _ (@Yq _ _ _ _ _ _ _ _ YK (@Yv _ _ _ _ _ _ _ YD (pv 1) Yh (fun _ _=>rfl)) YC (Yo _)) (@Yf _ _ _ Yy) (@Yf _ _ _ (@YeF _ _ _ _ _ _ _ _ _ _ hr (@Xl _ _ _ _ _ (pv 0) rfl) (pv 1) (@Wb _ _ _ _ _ _ _ _ _ _ _ _ _ _ _ _ Z2Y Zm hr (pv 0) (@Ya _ _ _ _ _ (pv 1) Yc (by rfl)) (by omega) (by rfl) (by rfl) (by rfl) (by rfl)) rfl)))) Ym) (@Yf _ _ _ (@Yl _ _ _ _ (@YeE _ _ _ _ _ _ _ hr (@Xl _ _ _ _ _ (pv 0) rfl) (pv 1) (fun _ _=>rfl))))),?_⟩;have dk:=hk.dk (K:=g.K);walk_at "rd";refine ⟨_,_,_,L.hl,Zm,Zg,_,WU _ _,d,rfl,xs,L.hd,_,dk,?_⟩;have lk:=L.lk
 cases f with
 | some z =>
  obtain ⟨p,ms⟩:=z;have lk:bw xs cD=some p:=lk;rw [lk];refine Y5 (by simp) ?_;unfold xK;walk_at "rd";exact ⟨_,_,_,L.hl,Zm,Zg,_,WU _ _,d,rfl,xs,L.hd,_,dk,p,lk,q p ms H xs L ⟨fun _ _ _ e=>e,fun _ e=>e,fun _ h => .inl h⟩⟩
 | none =>
  have lk:bw xs cD=none:=lk;rw [lk];refine Xx rfl ?_;obtain ⟨rb,hm,_⟩:=id hk;refine ⟨_,aq.of hm,_,Yk (j:=0) rfl,rfl,Y5 (fun z=>absurd (V.str.inj z) (by decide +kernel)) ?_⟩;unfold Il;walk_at "rd";refine ⟨_,_,L.hl,JB _ _ (by decide +kernel) (by decide +kernel),.ref ls,a,rfl,hk,fun p ms H1 s1 mk1 gms=>?_⟩;have hd1:bL g.P g.w g.K H1 d xs:=L.hd.keep (Ygf s1) (s1 _ _ L.hd.at_);have JH:=s1 _ _ L.hl;have lf1:xs.length=0:=L.len;have ndl:ls≠d:=YI L.hl L.hd.at_ (by intro z;cases z);have zY:=dk.keep s1;refine ⟨_,_,_,JH,Zm,Zg,_,WU _ _,d,a,xs,cD,p,rfl,rfl,rfl,hd1,zY,lk,by omega,?_⟩;have hd2:bL g.P g.w g.K (upd H1 d (dH g.P g.w d (xs++[(cD,a,p)]))) d (xs++[(cD,a,p)]):=hd1.put zY lk (by omega);have hl2:upd H1 d (dH g.P g.w d (xs++[(cD,a,p)])) ls=some (.ins Z4 dl (lf b d)):=by rw [Yg ndl];exact JH
  have dk2:DK g.K (upd H1 d (dH g.P g.w d (xs++[(cD,a,p)]))) a cD:=zY.mW fun z ys h=>h.imp (fun e=>by rw [Yg (YI e hd1.at_ (by intro z;cases z))];exact e) fun ⟨o,e⟩=>⟨o,by rw [Yg (YI e hd1.at_ (by intro z;cases z))];exact e⟩
  have hk2:bw (xs++[(cD,a,p)]) cD=some p:=by rw [Ycv _ _ _ _ _ lk,if_pos rfl]
  unfold xK;walk_at "rd";refine ⟨_,_,_,hl2,Zm,Zg,_,WU _ _,d,rfl,_,hd2,_,dk2,p,hk2,?_⟩;refine q p ms _ (xs++[(cD,a,p)]) ⟨hl2,hd2,by rw [Ζ,lf1];rfl,hk2,fun p' JK e=>?_⟩ ⟨fun x o nx e=>?_,fun x e=>?_,fun x hx=>?_⟩
  ·cases Λ e
   exact mk1.stay fun x o _ ne e=>by rw [Yg fun z=>by rw [z,hd1.at_] at e;exact ne _ (Λ e).symm];exact e
  ·rw [Yg fun z=>nx (.inl z)];exact s1 _ _ e
  ·exact s1.free (Xy e)
  ·rcases hx with hx | ⟨p',JK,e,hx⟩
   ·exact .inl (.inl hx)
   ·cases Λ e
    exact .inr (gms x hx)
def fS (b:V) (ls:Addr):List (Str×V):=[("book",b),("lister",.ref ls)]
theorem JL (b:V) (ls:Addr):(fS b ls).lookup ("book":Str)=some b:=rfl
theorem YdJ (b:V) (ls:Addr):(fS b ls).lookup ("lister":Str)=some (.ref ls):=JD (by decide +kernel) (by decide +kernel)
theorem Q6 {m:Str} (b:V) (ls:Addr) (h:(m==("book":Str))=false) (h2:(m==("lister":Str))=false):(fS b ls).lookup m=none:=qY h h2
structure SI (P:Ο) (w:ε) (K:Κ) (C:Cs) (CL CS:Addr) (G H:Hp) (st ds ls dl d:Addr) (b:V) (f:Option (Addr×List Addr)) (xs:Dx):Prop where
 bx:H st=some (.ins CS ds (fS b ls))
 li:Li P w K C CL H ls dl d b f xs
 sg:Ye G H
 out:∀ x,mu d f x->G x=none
structure Fz (d:Addr) (G H:Hp) (f:Option (Addr×List Addr)) (G' H':Hp) (f':Option (Addr×List Addr)):Prop where
 go:Go d H f H' f'
 gg:Ye G G'
 gn:∀ x,G' x≠none->G x≠none\/H x=none
section
 variable {P:Ο} {w:ε} {K:Κ} {C:Cs} {CL CS:Addr} {G H G' H':Hp} {st ds ls dl d:Addr} {b:V} {f f':Option (Addr×List Addr)} {xs:Dx}
theorem Li.jt (L:Li P w K C CL H ls dl d b f xs) {x:Addr} (h:mu d f x):(∃ o,H x=some o)/\(∀ ys,H x≠some (.tup ys))/\∀ c e fs,H x≠some (.ins c e fs):=by
 rcases h with rfl | ⟨p,ms,e,hx⟩
 ·rw [L.hd.at_];exact ⟨⟨_,rfl⟩,(fun _ z=>by cases z),fun _ _ _ z=>by cases z⟩
 ·obtain ⟨ys,e⟩:=(L.pL p ms e).ls x hx
  rw [e];exact ⟨⟨_,rfl⟩,(fun _ z=>by cases z),fun _ _ _ z=>by cases z⟩
theorem Li.new (L:Li P w K C CL H ls dl d b f xs) {x:Addr} (h:H x=none):¬ mu d f x:=fun z=>by
 obtain ⟨⟨o,e⟩,_⟩:=L.jt z;rw [h] at e;cases e
theorem Li.tp (L:Li P w K C CL H ls dl d b f xs) (g:Go d H f H' f'):Tp H H':=fun x ys e=>g.fr x _ (fun z=>(L.jt z).2.1 _ e) e
theorem Li.ins (L:Li P w K C CL H ls dl d b f xs) (g:Go d H f H' f') {x c e:Addr} {fs:List (Str×V)} (h:H x=some (.ins c e fs)):H' x=some (.ins c e fs):=g.fr x _ (fun z=>(L.jt z).2.2 _ _ _ h) h
theorem Li.keep (L:Li P w K C CL H ls dl d b f xs) (k:∀ x o,(∀ ys,o = .lst ys->mu d f x)->H x=some o->H' x=some o):Li P w K C CL H' ls dl d b f xs :=
 ⟨k _ _ (by intro ys z;cases z) L.hl,L.hd.keep (fun y us h=>h.imp (fun e=>k _ _ (by intro ys z;cases z) e) fun ⟨o,e⟩=>⟨o,k _ _ (by intro ys z;cases z) e⟩) (k _ _ (by intro ys z;cases z) L.hd.at_),L.len,L.lk,fun p ms e=>(L.pL p ms e).stay fun x o hl _=>k x o fun ys z => .inr ⟨p,ms,e,hl ys z⟩⟩
theorem Li.cnt {p:Addr} {ms:List Addr} (L:Li P w K C CL H ls dl d b (some (p,ms)) xs) (fr:∀ x o,x∉ms->H x=some o->H' x=some o) (m:eV C H' p ms):Li P w K C CL H' ls dl d b (some (p,ms)) xs:=by
 have hm:=(L.pL p ms rfl).ls;have nl:∀ {x:Addr} {o:HO},H x=some o->(∀ ys,o ≠ .lst ys)->H' x=some o:=fun e' ne=>fr _ _ (fun z=>by obtain ⟨ys,e2⟩:=hm _ z;rw [e'] at e2;exact ne _ (Λ e2)) e'
 exact ⟨nl L.hl (by intro ys z;cases z),L.hd.keep (fun y us h=>h.imp (fun e=>nl e (by intro ys z;cases z)) fun ⟨o,e⟩=>⟨o,nl e (by intro ys z;cases z)⟩) (nl L.hd.at_ (by intro ys z;cases z)),L.len,L.lk,fun p' JK e'=>by cases Λ e';exact m⟩
theorem Go.trans {H1:Hp} {f1:Option (Addr×List Addr)} (a:Go d H f H1 f1) (b:Go d H1 f1 H' f'):Go d H f H' f':=⟨fun x o h e=>b.fr x o (fun z=>(a.nw x z).elim h (by rw [e];simp)) (a.fr x o h e),fun x e=>a.al x (b.al x e),fun x h=>by
 rcases b.nw x h with h | h
 ·exact a.nw x h
 ·exact .inr (a.al x h)⟩
theorem Fz.trans {G1 H1:Hp} {f1:Option (Addr×List Addr)} (a:Fz d G H f G1 H1 f1) (b:Fz d G1 H1 f1 G' H' f'):Fz d G H f G' H' f':=⟨a.go.trans b.go,a.gg.trans b.gg,fun x h=>by
 rcases b.gn x h with h | h
 ·exact a.gn x h
 ·exact .inr (a.go.al x h)⟩
theorem SI.own (L:SI P w K C CL CS G H st ds ls dl d b f xs) (k:∀ x o,(∀ ys,o = .lst ys->G x≠none\/mu d f x)->H x=some o->H' x=some o):SI P w K C CL CS G H' st ds ls dl d b f xs :=
 ⟨k _ _ (by intro ys z;cases z) L.bx,L.li.keep fun x o h=>k x o fun ys z => .inr (h ys z),fun x o e=>k x o (fun _ _ => .inl (by rw [e];simp)) (L.sg _ _ e),L.out⟩
theorem SI.same (L:SI P w K C CL CS G H st ds ls dl d b f xs) (s:Ye H H'):SI P w K C CL CS G H' st ds ls dl d b f xs:=L.own fun x o _ e=>s x o e
theorem Qj (s:Ye H H'):Fz d G H f G H' f:=⟨⟨fun x o _ e=>s x o e,fun x e=>s.free e,fun _ h => .inl h⟩,.refl _,fun _ h => .inl h⟩
noncomputable def fU (d:Addr) (f:Option (Addr×List Addr)) (G H H':Hp):Hp:=vis (fun a=>¬ mu d f a) fun a=>match H a with | none=>H' a | some _=>G a
theorem V3 {x:Addr} {o:HO} (n:¬ mu d f x) (h:H x=none) (e:H' x=some o):fU d f G H H' x=some o:=Jk n (by rw [h];exact e)
theorem JM (L:SI P w K C CL CS G H st ds ls dl d b f xs) (go:Go d H f H' f') (s:Ye G H'):Fz d G H f (fU d f' G H H') H' f'/\Ye (fU d f' G H H') H'/\∀ x,mu d f' x->fU d f' G H H' x=none:=by
 refine ⟨⟨go,fun x o e=>Jk (fun z=>?_) ?_,fun x h=>?_⟩,fun x o e=>?_,fun x h=>?_⟩
 ·rcases go.nw x z with z | z
  ·rw [L.out x z] at e;cases e
  ·rw [L.sg _ _ e] at z;cases z
 ·rw [L.sg _ _ e];exact e
 ·cases e:H x with
  | none=>exact .inr rfl
  | some o =>
   refine .inl fun z=>h ?_
   unfold fU vis
   split
   ·show (match H x with | none=>H' x | some _=>G x)=none
    rw [e];exact z
   ·rfl
 ·obtain ⟨_,e⟩:=YgW e
  cases h:H x with
  | none=>rw [h] at e;exact e
  | some u=>rw [h] at e;exact s _ _ e
 ·unfold fU vis
  rw [if_neg (fun n=>n h)]
end
inductive JN (P:Ο) (w:ε) (K:Κ) (C:Cs) (CL CS:Addr) (vs:List V) (H:Hp) (Q:VK) (E_:XK):Prop
 | mk (st ds:Addr) (b:V) (G:Hp) (h0:vs=[.ref st,b]) (h1:H st=some (.ins CS ds [])) (h2:Ye G H) (h3:G st=none) (h4:∀ ls dl d H',SI P w K C CL CS G H' st ds ls dl d b none []->H d=none->Q .non H')
theorem Z2A {k:Nat} {Z4 Z0 Z1 Z2:Addr} (R:g.dz "Stepper" Z2 "Stepper.__init__" zx ["self","book"]) {cY:Nat} (Z3f:g.Ma cY "Lister" Z4 ["self","book"] (JC g.P g.w Z4)) (qD:cY+1<=k) (Zc:Cls g.K Z2) (Zb:Yt g.K Z2 "book") (Z8:Yt g.K Z2 "lister"):g.Ma (k+1) "Stepper" Z2 ["self","book"] (JN g.P g.w g.K (Cs.mk Z0 Z1) Z4 Z2):=by
 refine R.ma Z2q (fun vs H Q E h=>by obtain ⟨st,ds,b,G,rfl,hst,sg,gs,q⟩:=h;rfl) fun f_ cdv A outer s H vs Q E hr h=>?_
 obtain ⟨st,ds,b,G,rfl,hst,sg,gs,q⟩:=h;refine ⟨_,(@Yd _ _ _ _ _ (@X9 _ _ _ _ _ _ _ _ (pv 0) (pv 1) rfl) (@Yf _ _ _ (@X9 _ _ _ _ _ _ _ _ (pv 0) (@QW _ _ _ _ _ _ _ _ _ _ _ _ _ Z3f hr (@Ya _ _ _ _ _ (pv 1) Yc (by rfl)) (by omega) (by rfl) (by rfl) (by decide) (by rfl) (by rfl)) rfl))),?_⟩;walk_at "rd";refine ⟨Z2,ds,_,hst,Zc,Zb,by decide,fun ls dl gl JQ hne=>?_⟩;obtain ⟨H1,hH1⟩:∃ H1,H1=upd H st (.ins Z2 ds (Y1 "book" b [])):=⟨_,rfl⟩;rw [<- hH1] at gl JQ ⊢
 have h1:H1 st=some (.ins Z2 ds (Y1 "book" b [])):=by rw [hH1,Yb]
 refine ⟨ls,dl,b,rfl,Yb,fun d H2 gd sb hl hd=>⟨rfl,?_⟩⟩;have s2:=VN gl JQ sb;have h2:=s2 _ _ h1;refine ⟨Z2,ds,_,h2,Zc,Z8,UM (show 1<=3 by decide),?_⟩;have JR:=Xy (Xy gd);have nst:ls≠st:=ω (Yj h1 gl);have NT:d≠st:=YI hd h2 (by intro z;cases z);have JT:H d=none:=by rw [hH1] at JR;exact Xy JR
 have fr:∀ {x:Addr} {o:HO},x≠st->H x=some o->H1 x=some o:=fun n e=>by rw [hH1,Yg n];exact e
 refine q ls dl d _ ⟨?_,⟨by rw [Yg nst];exact hl,YdE (by rw [Yg NT];exact hd),rfl,rfl,fun p ms e=>by cases e⟩,fun x o e=>?_,fun x h=>?_⟩ JT
 ·rw [Yb]
  refine congrArg some (congrArg (HO.ins _ _) ?_)
  show Y1 "lister" (.ref ls) [(("book":Str),b)]=fS b ls
  simp only [Y1,if_neg (n1 (a:=("book":Str)) (b:=("lister":Str)) (by decide +kernel))];rfl
 ·have nx:x≠st:=fun z=>by rw [z,gs] at e;cases e
  rw [Yg nx];exact s2 _ _ (fr nx (sg _ _ e))
 ·rcases h with rfl | ⟨p,ms,h,_⟩
  ·exact sg.free JT
  ·cases h
def Vq (lo:Int) (d:Β):List PyData:=if sz lo .pk d=0 then [] else [oZ]
inductive uF (P:Ο) (w:ε) (K:Κ) (C:Cs) (CL CS:Addr) (vs:List V) (H:Hp) (Q:VK) (E_:XK):Prop
 | mk (st ds ls dl dd:Addr) (b:V) (f:Option (Addr×List Addr)) (xs:Dx) (lo:Int) (x v:V) (d:Β) (G:Hp) (h0:vs=[.ref st,x,v]) (h1:SI P w K C CL CS G H st ds ls dl dd b f xs) (h2:DV G x (bR lo .pk)) (h3:DV G v d) (h4:gd lo .pk d) (h5:∀ r H' G' f' xs',SI P w K C CL CS G' H' st ds ls dl dd b f' xs'->Fz dd G H f G' H' f'->DV G' r (.list (Vq lo d))->Q r H')
theorem YdL {K:Κ} {tl:TE} {g:TG} {tb:TS} {D:Ends} {σ:St} {H:Hp} {xs:List V} (Pv:Addr->Nat->St->Hp->Prop) (ha:∀ R:V->Hp->Prop,(∀ c H1,Pv c 0 σ H1->R (.ref c) H1)->tl σ H R) (hl:∀ c i σ H,i<=xs.length->Pv c i σ H->aq K H c xs)
  (hs:∀ c (i:Nat) x σ H,xs[i]?=some x->Pv c i σ H->g x σ H fun σ2 H2=>tb { D with nx:=Pv c (i+1),ct:=Pv c (i+1),bk:=D.nx } σ2 H2) (hd:∀ c σ H,Pv c xs.length σ H->D.nx σ H):XS (rO K tl) g tb D σ H:=by
 refine ha _ fun c H1 h0=>⟨c,rfl,⟨xs,hl c 0 σ H1 (az _) h0⟩,?_⟩
 exact Fy (Pv c) h0 (hl c) (hs c) (hd c)
theorem zZ {o:Nat} (h:o<=7):fQ o<=8:=by
 have:∀ o≤7,fQ o<=8:=by decide +kernel
 exact this o h
def LaE (H H':Hp) (us:List V):Prop:=∃ Y b0,us=[.ref Y]/\H Y=none/\H b0=none/\H' Y=some (.tup [.str "ask",.ref b0])/\H' b0=some (.tup [])
inductive LaV (P:Ο) (w:ε) (K:Κ) (C:Cs) (CL CS:Addr) (G H:Hp) (st ds ls dl dd:Addr) (b:V) (f:Option (Addr×List Addr)) (ax av:V) (n:Nat) (X:Addr) (ts:List V) (c:Addr) (i:Nat) (σ:St) (H':Hp):Prop
 | mk (o5 o6 o7:Option V) (us:List V) (f':Option (Addr×List Addr)) (xs':Dx) (e:σ=[some (.ref st),some ax,some av,some (.int (n:Nat)),some (.ref X),o5,o6,o7]) (hc:H' c=some (.tup ts)) (si:SI P w K C CL CS G H' st ds ls dl dd b f' xs') (go:Go dd H f H' f') (nX:¬ mu dd f' X) (hX:H' X=some (.lst us)) (al:if i=0\/n=0 then us=[] else LaE H H' us)
theorem Z1v {k:Nat} {Z4 Z0 Z1 Z2:Addr} (R:g.bC Z2 "leasts_ahead" "Stepper.leasts_ahead" ZH ["self","shape","value"]) (Zw:g.Fn k "branch_place" ["branches","mark"] (gJ)) (pN:g.Fn k "size_of" ["book","shape","value"] (pF g.K)) (jc:g.Fn k "least_below" ["maker","below"] (uy (Cs.mk Z0 Z1))) (Z3g:g.Me k Z4 "maker_of" ["self","shape"] (uE g.P g.w g.K (Cs.mk Z0 Z1) Z4)) (Zm:Cls g.K Z4) (Zq:Yt g.K Z4 "book") (Zg:Yt g.K Z4 "makers") (Zc:Cls g.K Z2) (Zb:Yt g.K Z2 "book") (Z8:Yt g.K Z2 "lister"):g.Me (k+1) Z2 "leasts_ahead" ["self","shape","value"] (uF g.P g.w g.K (Cs.mk Z0 Z1) Z4 Z2):=by
 refine R.me Zj (fun vs H Q E h=>by obtain ⟨st,ds,ls,dl,dd,b,f,xs,lo,x,v,d,G,rfl,si,hS,hv,hg,q⟩:=h;rfl) fun f_ cdv A outer s H vs Q E hr h=>?_
 obtain ⟨st,ds,ls,dl,dd,b,f,xs,lo,x,v,d,G,rfl,si,hS,hv,hg,q⟩:=h;refine ⟨_,(@Yd _ _ _ _ _ (@Yr _ _ (3) _ _ _ _ Zj.nd rfl (.inl rfl) (@Ys _ _ _ _ _ _ _ _ _ _ _ _ pN hr (@Ya _ _ _ _ _ (@Xl _ _ _ _ _ (pv 0) rfl) (@Ya _ _ _ _ _ (pv 1) (@Ya _ _ _ _ _ (pv 2) Yc (by rfl)) (by rfl)) (by rfl)) (by omega) (by rfl) (by rfl) (by decide) (by rfl) (by rfl)) (by rfl) (by first | exact .inl rfl | exact .inr rfl | assumption)) (@Yd _ _ _ _ _ (@Yr _ _ (4) _ _ _ _ Zj.nd rfl (.inl rfl) (@YU _ _ _ _ Yc) (by rfl) (by first | exact .inl rfl | exact .inr rfl | assumption)) (@Yd _ _ _ _ _ (@Xo _ _ _ _ _ _ _ _ ae rfl (@Uq _ _ _ _ (@Y8 _ _ _ _ _ _ _ _ _ _ Rx (@Yv _ _ _ _ _ _ _ YD (pv 1) Yh (fun _ _=>rfl)) Xs (@Xf _ _ _ (@Ys _ _ _ _ _ _ _ _ _ _ _ _ Zw hr (@Ya _ _ _ _ _ (@Yv _ _ _ _ _ _ _ YD (pv 1) Yh (fun _ _=>rfl)) (@Ya _ _ _ _ _ (@Yv _ _ _ _ _ _ _ YD (pv 2) Yh (fun _ _=>rfl)) Yc (by rfl)) (by rfl)) (by omega) (by rfl) (by rfl) (by decide) (by rfl) (by rfl))))) (@WH _ _ _ _ _ (2) rfl (@Y7 _ _ _ _ _ (@Yu _ _ (5) _ Zj.nd rfl (.inl rfl) (by first | exact .inl rfl | exact .inr rfl | assumption)) (@Y7 _ _ _ _ _ (@Yu _ _ (6) _ Zj.nd rfl (.inl rfl) (by first | exact .inl rfl | exact .inr rfl | assumption)) Wf (by rfl)) (by rfl)) (by rfl) (by rfl)) (@Yd _ _ _ _ _ (@Yr _ _ (7) _ _ _ _ Zj.nd rfl (.inl rfl) (@Ys _ _ _ _ _ _ _ _ _ _ _ _ jc hr (@Ya _ _ _ _ _ (@Wb _ _ _ _ _ _ _ _ _ _ _ _ _ _ _ _ Z3g Zm hr (@Xl _ _ _ _ _ (pv 0) rfl) (@Ya _ _ _ _ _ (pv 6) Yc (by rfl)) (by omega) (by rfl) (by rfl) (by rfl) (by rfl)) (@Ya _ _ _ _ _ (pv 3) Yc (by rfl)) (by rfl)) (by omega) (by rfl) (by rfl) (by decide) (by rfl) (by rfl)) (by rfl) (by first | exact .inl rfl | exact .inr rfl | assumption)) (@Yf _ _ _ (@Yx _ _ _ _ _ _ _ _ (@Yq _ _ _ _ _ _ _ _ VR (pv 7) XF (Yo _)) (@Yf _ _ _ (@Y0 _ _ _ _ (@Xw _ _ _ _ _ _ _ _ _ _ _ _ bb bc bj Y6 (pv 4) (@Ya _ _ _ _ _ (@YZ _ _ _ _ _ (@Ya _ _ _ _ _ (pv 5) (@Ya _ _ _ _ _ (pv 7) Yc (by rfl)) (by rfl))) Yc (Xh _ _ _ _ _)) (by rfl) (by rfl) (by rfl) (by rfl) (by rfl)) (by rfl))) Ym))) (by intro _;rfl)) (@Yf _ _ _ (@Yl _ _ _ _ (pv 4)))))),?_⟩;obtain ⟨a,b',c0,c1,p0,p1,rfl,ha,hP⟩:=UK hS;obtain ⟨k,a',u,e,rfl,pv⟩:=Jo hv hg;have n8:sz lo .pk d<=8:=by
  rcases hg with rfl | ⟨o,ho,rfl⟩
  ·exact az _
  ·rw [show sz lo .pk (putD lo o)=fQ o by rw [sz,Wt]];exact zZ ho
 have JV:k=false->sz lo .pk d=0:=fun e=>by
  subst e;rw [pv.sz];exact (show sz lo .rw _=0 from rfl)
 have ql:∀ n,n=sz lo .pk d->Vq lo d=if n=0 then [] else [oZ]:=fun n e=>by rw [e];rfl
 generalize hz:sz lo .pk d=n at n8 JV;refine Yp fun R rr=>?_
 walk_at "rd";refine ⟨_,_,_,si.bx,Zc,Zb,_,JL _ _,lo,.pk,d,⟨b,_,_,G,si.sg,hS,hv,hg,by decide⟩,fun H1 s1=>rr _ _ (Yp fun R rr=>?_)⟩;rw [hz];walk_at "rd";refine ⟨few (by decide),fun X gX=>rr _ _ (Yp fun R rr=>?_)⟩;have sX:=Ye.aj gX (.lst []);have s2:=s1.trans sX;have uG:H X=none:=s1.free gX;have uH:=si.same s2;have sg2:Ye G (upd H1 X (.lst [])):=uH.sg;have hP2:=hP.keep sg2;refine YdL (xs:=([.ref c0,.ref c1]:List V).take k.toNat) (LaV g.P g.w g.K (Cs.mk Z0 Z1) Z4 Z2 G H st ds ls dl dd b f (.ref a) (.ref a') n X (([.ref c0,.ref c1]:List V).take k.toNat)) (fun R r=>?_) (fun c i σ H' _ ⟨_,_,_,_,_,_,_,hc,_,_,_,_,_⟩=>aq.of hc) ?_ ?_
 ·walk_at "rd"
  refine ⟨_,aq.of (sg2 _ _ ha),_,Yk (j:=1) rfl,_,aq.of (sg2 _ _ ha),_,Yk (j:=1) rfl,_,aq.of (sg2 _ _ pv.ha),_,Yk (j:=0) rfl,lo,b',c0,c1,p0,p1,k,rfl,hP2,fun H3 s3=>?_⟩;refine ⟨_,rfl,b',_,rfl,aq.of (s3 _ _ hP2.b),?_,fun p hp=>?_⟩
  ·show ¬ (HT.aK 2 0 none=0/\HT.aK 2 2 (some (k.toNat:Int))=2)
   cases k<;>decide
  ·have sp:=Ye.aj hp (.tup (Xr [.ref c0,.ref c1] none (some (k.toNat:Int))))
   have s4:=s3.trans sp;exact r p _ ⟨none,none,none,[],f,xs,rfl,by rw [Yb,Wh],uH.same s4,(Qj (G:=G) (s2.trans s4)).go,si.li.new uG,s4 _ _ Yb,by rw [if_pos (.inl rfl)]⟩
 ·rintro c i y σ H' hy ⟨o5,o6,o7,us,f',xs',rfl,hc,bG,go,nX,hX,al⟩
  have hi:i<k.toNat:=by
   have:=(Ι.mp hy).1;rw [ι] at this
   omega
  obtain rfl:k=true:=by cases k<;>first | rfl | (simp at hi)
  obtain rfl:i=0:=by simp at hi;exact hi
  rw [List.getElem?_take_of_lt hi] at hy
  cases Λ hy
  rw [if_pos (.inl rfl)] at al
  subst al;obtain ⟨pa,pb,rfl,hpa,hpb⟩:=UJ hP.p0;have hk:pK H' pa:=⟨pb,bG.sg _ _ hpa,bG.sg _ _ hpb⟩;refine ⟨c0,_,rfl,aq.of (bG.sg _ _ hP.c0),rfl,_,_,rfl,_,_,rfl,rfl,Yp fun R rr=>?_⟩;walk_at "rd";refine ⟨_,_,_,bG.bx,Zc,Z8,_,YdJ _ _,ls,rfl,_,_,bG.li.hl,JB _ _ (by decide +kernel) (by decide +kernel),ls,dl,dd,b,f',xs',pa,rfl,bG.li,hk,fun p ms H4 z6 L4 mD=>?_⟩;have JW:=bG.li.tp mD;have m7:=go.trans mD;have uI:¬ mu dd (some (p,ms)) X:=fun z=>(mD.nw X z).elim nX (by rw [hX];simp)
  have JX:=mD.fr _ _ nX hX;have JZ:Ye G H4:=fun y o e=>mD.fr y o (fun z=>by rw [bG.out y z] at e;cases e) (bG.sg _ _ e)
  have qZ:∀ y,mu dd (some (p,ms)) y->G y=none:=fun y z=>by
   rcases m7.nw y z with z | z
   ·exact si.out y z
   ·exact si.sg.free z
  have J0:SI g.P g.w g.K (Cs.mk Z0 Z1) Z4 Z2 G H4 st ds ls dl dd b (some (p,ms)) z6:=⟨bG.li.ins mD bG.bx,L4,JZ,qZ⟩;refine ⟨p,ms,n,rfl,by omega,L4.pL p ms rfl,fun z=>?_,fun z b0 H5 fZ J1 gb hb0=>?_⟩
  ·refine rr _ _ ?_
   walk_at "rd";exact ⟨_,_,_,[],_,_,rfl,JW _ _ hc,J0,m7,uI,JX,by rw [if_pos (.inr z)]⟩
  ·have hm:=(L4.pL p ms rfl).ls
   have J2:∀ y,y∈ms->mu dd (some (p,ms)) y:=fun y hy => .inr ⟨p,ms,rfl,hy⟩
   have uJ:Go dd H4 (some (p,ms)) H5 (some (p,ms)):=⟨fun y o h e=>fZ y o (fun hm=>h (J2 y hm)) e,fun y e=>(by
    cases h:H4 y with
    | none=>rfl
    | some o =>
     exfalso;by_cases c:y∈ms
     ·obtain ⟨ys,e'⟩:=J1.ls y c
      rw [e] at e';cases e'
     ·rw [fZ y o c h] at e;cases e),fun _ h => .inl h⟩
   have m8:=m7.trans uJ;have sg5:Ye G H5:=fun y o e=>fZ y o (fun z=>by rw [qZ y (J2 y z)] at e;cases e) (JZ _ _ e)
   have z7:SI g.P g.w g.K (Cs.mk Z0 Z1) Z4 Z2 G H5 st ds ls dl dd b (some (p,ms)) z6:=⟨L4.ins uJ J0.bx,L4.cnt fZ J1,sg5,qZ⟩;have z8:=uJ.fr _ _ uI JX;have z9:=JW.trans (L4.tp uJ);refine rr _ _ ?_;walk_at "rd";refine ⟨.inl ⟨rfl,_,ao.of z8⟩,few (by decide),fun Y gY=>?_⟩;have sY:=Ye.aj gY (.tup [.str "ask",.ref b0]);have uK:=sY _ _ z8;have YX:Y≠X:=YI Yb uK (by intro z;cases z);have bX:b0≠X:=YI hb0 z8 (by intro z;cases z);refine ⟨_,uK,few (by decide),_,_,_,[.ref Y],_,z6,rfl,zH uK _ _ (sY _ _ (z9 _ _ hc)),?_,?_,uI,Yb,?_⟩
   ·refine (z7.same sY).own fun y o hl e=>?_
    rw [Yg fun z=>?_]
    ·exact e
    ·rw [z,uK] at e
     rcases hl _ (Λ e).symm with g | m
     ·rw [z] at g;exact g (si.sg.free uG)
     ·rw [z] at m;exact uI m
   ·refine ⟨fun y o m e=>?_,fun y e=>?_,fun y m=>m8.nw y m⟩
    ·rw [Yg (Yj e uG)];exact sY _ _ (m8.fr y o m e)
    ·exact m8.al y (sY.free (Xy e))
   ·rw [if_neg (by omega)]
    exact ⟨Y,b0,rfl,m8.al Y gY,m7.al b0 gb,by rw [Yg YX,Yb],by rw [Yg bX];exact sY _ _ hb0⟩
 ·rintro c σ H' ⟨o5,o6,o7,us,f',xs',rfl,hc,bG,go,nX,hX,al⟩
  refine rr _ _ ?_;walk_at "rd";obtain ⟨fz,s',o'⟩:=JM si go bG.sg;have nt:∀ {y:Addr} {ys:List V},H' y=some (.tup ys)->¬ mu dd f' y:=fun e z=>(bG.li.jt z).2.1 _ e
  refine q _ H' _ f' xs' ⟨bG.bx,bG.li,s',o'⟩ fz ?_;have hXG:=V3 (d:=dd) (f:=f') (G:=G) nX uG hX;refine .lst hXG ?_ ?_
  ·split at al
   ·subst al;simp
   ·obtain ⟨Y,b0,rfl,_⟩:=al;simp
  ·rw [ql n hz.symm]
   rw [ι] at al
   by_cases n0:n=0
   ·rw [if_pos (.inr n0)] at al
    rw [if_pos n0,al];exact .nil
   ·have k1:k=true:=by cases k<;>first | rfl | exact absurd (JV rfl) n0
    subst k1;rw [if_neg (by simp;omega)] at al
    obtain ⟨Y,b0,rfl,g1,g2,h1,h2⟩:=al;rw [if_neg n0];exact .cons (.tup (V3 (nt h1) g1 h1) (by simp) (.cons (Wm _ (by decide +kernel)) (.cons (.tup (V3 (nt h2) g2 h2) (by simp) .nil) .nil))) .nil
def hal:Nat->Nat->List Nat
 | 0,_=>[]
 | f+1,o=>if o=0 then [] else (o / 2)::hal f (o / 2)
def mF (o:Nat):List Nat:=(hal 20 o).reverse
def wo {α:Type} (xs:List α):List (List α):=(ai xs.length).map fun i=>xs.take i++xs.drop (i+1)
def wi {α:Type} (xs:List α) (L:List (List α)):List (List α):=((ai L.length).map fun i=>(L.getD i []).map fun s=>xs.take i++[s]++xs.drop (i+1)).flatten
inductive uL (K:Κ) (vs:List V) (H:Hp) (Q:VK) (E_:XK):Prop
 | mk (lo:Int) (o:Nat) (h0:vs=[.int lo,.int (lo+o)]) (h1:o<=7) (h2:∀ D H',Ye H H'->H D=none->H' D=some (.lst ((mF o).map fun (i:Nat)=>V.int (lo+(i:Nat))))->Q (.ref D) H')
theorem YeQ {f o:Nat} (h:0<o):hal (f+1) o=(o / 2)::hal f (o / 2):=by rw [hal,if_neg (by omega)]
theorem YeR (f:Nat):hal f 0=[]:=by cases f<;>rfl
theorem Z3M  (R:g.Raw "whole_steps" "whole_steps" yD ["low","value"]):g.Fn (1) "whole_steps" ["low","value"] (uL g.K):=by
 refine R.fn tK (fun vs H Q E h=>by obtain ⟨lo,o,rfl,ho,q⟩:=h;rfl) fun f_ cdv A outer s H vs Q E hr h=>?_
 obtain ⟨lo,o,rfl,ho,q⟩:=h;refine ⟨_,(@Yd _ _ _ _ _ (@Yr _ _ (2) _ _ _ _ tK.nd rfl (.inl rfl) (@YU _ _ _ _ Yc) (by rfl) (by first | exact .inl rfl | exact .inr rfl | assumption)) (@Yd _ _ _ _ _ (@Yr _ _ (3) _ _ _ _ tK.nd rfl (.inl rfl) (@Yn _ _ _ _ _ _ _ _ Vc (pv 1) (pv 0)) (by rfl) (by first | exact .inl rfl | exact .inr rfl | assumption)) (@Yd _ _ _ _ _ (@Wg _ _ _ _ _ _ ae (@Yq _ _ _ _ _ _ _ _ Us (pv 3) Yh (Yo _)) (@Yd _ _ _ _ _ (@Yr _ _ (3) _ _ _ _ tK.nd rfl (.inl rfl) (@Yn _ _ _ _ _ _ _ _ Xt (pv 3) Yh) (by rfl) (by first | exact .inl rfl | exact .inr rfl | assumption)) (@Yf _ _ _ (@Y0 _ _ _ _ (@Xw _ _ _ _ _ _ _ _ _ _ _ _ bb bc bj Y6 (pv 2) (@Ya _ _ _ _ _ (@Yn _ _ _ _ _ _ _ _ YT (pv 0) (pv 3)) Yc (by rfl)) (by rfl) (by rfl) (by rfl) (by rfl) (by rfl)) (by rfl))))) (@Yf _ _ _ (@Yl _ _ _ _ (@Tr _ _ _ _ _ _ _ (pv 2) (@WO _ _ _ _ _ _ Ws Yh))))))),?_⟩;refine Yp fun R rr=>?_
 walk_at "rd";refine ⟨few (by decide),fun X gX=>rr _ _ (Yp fun R rr=>?_)⟩;have sX:=Ye.aj gX (.lst []);walk_at "rd";rw [show lo+(o:Int) - lo=o by omega];refine rr _ _ (Yp fun R rr=>?_);refine Wi (α:=Nat×Nat×List Nat) (fun a σ H'=>σ=[some (.int lo),some (.int (lo+o)),some (.ref X),some (.int (a.1:Nat))]/\a.1<2^a.2.1/\a.2.1<=20/\a.2.2.length+a.2.1=20/\hal 20 o=a.2.2++hal a.2.1 a.1/\SameBut X H H'/\H' X=some (.lst (a.2.2.map fun (i:Nat)=>V.int (lo+(i:Nat))))) (fun a=>decide (0<a.1)) (fun a=>a.1) (o,20,[]) ⟨rfl,(by omega:o<2^20),Μ 20,rfl,rfl,fun b u nb e=>by rw [Yg nb];exact e,Yb⟩ ?_ ?_ ?_
 ·rintro ⟨x,f,l⟩ σ H' ⟨rfl,h1,h2,h3,h4,sb,hX⟩ R r
  walk_at "rd";have:=r H' ⟨rfl,h1,h2,h3,h4,sb,hX⟩;rw [show decide (0<x)=decide ((0:Int)<(x:Int)) from decide_eq_decide.mpr (by omega)] at this
  exact this
 ·rintro ⟨x,f,l⟩ σ H' ⟨rfl,h1,h2,h3,h4,sb,hX⟩ hx
  have hx0:0<x:=of_decide_eq_true hx;clear hx;have hf:f≠0:=fun z=>by subst z;simp at h1;omega
  obtain ⟨f,rfl⟩:∃ f',f=f'+1:=⟨f - 1,by omega⟩;dsimp only at h1 h2 h3 h4 hX ⊢;rw [YeQ hx0] at h4
  rw [Nat.pow_succ] at h1
  refine Yp fun R rr=>?_
  walk_at "rd";refine ⟨Xm (by decide) (by decide),rr _ _ ?_⟩;walk_at "rd";rw [show ((x:Nat):Int) / 2=((x / 2:Nat):Int) by omega];refine ⟨.inl ⟨rfl,_,ao.of hX⟩,_,hX,few (by simp;omega),?_⟩;refine ⟨(x / 2,f,l++[x / 2]),rfl,(by omega:x / 2<2^f),(by omega:f<=20),?_,?_,fun b u nb e=>by rw [Yg nb];exact sb b u nb e,?_,(by omega:x / 2<x)⟩
  ·show (l++[x / 2]).length+f=20
   rw [Ζ,δ];omega
  ·show hal 20 o=(l++[x / 2])++hal f (x / 2)
   rw [h4,ca];rfl
  ·rw [Yb,ξ];rfl
 ·rintro ⟨x,f,l⟩ σ H' ⟨rfl,h1,h2,h3,h4,sb,hX⟩ hx
  have hx:x=0:=by have:=of_decide_eq_false hx;omega
  subst hx;refine rr _ _ ?_;walk_at "rd";rw [YeR,ay] at h4
  refine ⟨_,ao.of hX,fun Y gY=>q Y _ (fun b u e=>?_) ?_ ?_⟩
  ·rw [Yg (Yj (sb _ _ (Yj e gX) e) gY)]
   exact sb _ _ (Yj e gX) e
  ·cases e:H Y with
   | none=>rfl
   | some u=>rw [sb _ _ (Yj e gX) e] at gY;cases gY
  ·rw [Yb,mF,h4,List.map_reverse]
structure Nl (H H':Hp) (as:List Addr) (zs:List (List V)):Prop where
 len:as.length=zs.length
 nw:∀ a∈as,H a=none
 nd:as.Nodup
 at_:∀ (i:Nat) a z,as[i]?=some a->zs[i]?=some z->H' a=some (.lst z)
theorem Nl.snoc {H H' aF:Hp} {as:List Addr} {zs:List (List V)} {a:Addr} {z:List V} (h:Nl H H' as zs) (ha:H a=none) (ha':H' a=none) (hz:aF a=some (.lst z)) (k:∀ b∈as,∀ o,H' b=some o->aF b=some o):Nl H aF (as++[a]) (zs++[z]):=by
 have al:∀ b∈as,H' b≠none:=fun b hb=>by
  obtain ⟨i,hi⟩:=List.getElem?_of_mem hb;have hl:=(Ι.mp hi).1;have e:zs[i]?=some (zs[i]'(by have:=h.len;omega)):=Χ _;rw [h.at_ i b _ hi e];simp
 refine ⟨by rw [Ζ,Ζ,h.len];rfl,fun b hb=>?_,?_,fun i b y h1 h2=>?_⟩
 ·rcases η.mp hb with hb | hb
  ·exact h.nw b hb
  ·cases ς.mp hb;exact ha
 ·rw [cz]
  refine ⟨h.nd,by simp,fun x hx y hy=>?_⟩
  cases ς.mp hy
  intro e;subst e;exact al x hx ha'
 ·by_cases c:i<as.length
  ·rw [ag c] at h1
   rw [ag (by have:=h.len;omega)] at h2
   exact k b (Τ h1) _ (h.at_ i b y h1 h2)
  ·have hi:i=as.length:=by
    have:=(Ι.mp h1).1;rw [Ζ,δ] at this
    omega
   subst hi;rw [ar (Μ _),ei] at h1
   rw [h.len,ar (Μ _),ei] at h2
   cases Λ h1
   cases Λ h2
   exact hz
inductive uM (K:Κ) (vs:List V) (H:Hp) (Q:VK) (E_:XK):Prop
 | mk (x:V) (h0:vs=[x]) (h1:((∃ l:List Nat,x = .str (S l)/\l.length<=100/\∀ D H',Ye H H'->H D=none->H' D=some (.lst ((wo l).map fun z=>V.str (S z)))->Q (.ref D) H')\/∃ (T:Addr) (us:List V),x = .ref T/\H T=some (.lst us)/\us.length<=100/\∀ D as H',Ye H H'->H D=none->H' D=some (.lst (as.map V.ref))->Nl H H' as (wo us)->Q (.ref D) H'))
theorem Z3D  (R:g.Raw "without_each" "without_each" yE ["things"]) (aA:g.mg "len"=none) (Ze:g.mg "range"=none):g.Fn (1) "without_each" ["things"] (uM g.K):=by
 refine R.fn Z3x (fun vs H Q E h=>by obtain ⟨x,rfl,h⟩:=h;rfl) fun f_ cdv A outer s H vs Q E hr h=>?_
 obtain ⟨x,rfl,h⟩:=h;refine ⟨_,(@Yf _ _ _ (@Yl _ _ _ _ (@Ydv _ _ _ _ (@Xj _ _ _ _ _ _ _ ([none,some 0]) ((["place","things"]:List Str)) _ (YE 0) _ _ (.own (.cap (i:=0) rfl rfl (by first | exact .inl rfl | exact .inr rfl) .nil)) rfl (@XB _ _ _ _ _ _ rfl Ze (@Ya _ _ _ _ _ (@YG _ _ _ _ _ _ _ _ _ _ aA YB (@Ya _ _ _ _ _ (pv 0) Yc (by rfl)) (by decide +kernel) (by rfl) (by rfl) (by decide) (by decide) (by rfl) (by rfl)) Yc (by rfl)) (by rfl)) (fun cl C s₀ H₀ fp pn=>(@Yu _ _ (0) _ (show aI (["place","things"]:List Str) by decide +kernel) rfl (.inl rfl) (.inr rfl))) (fun cl C s₀ H₀ fp pn=>YV) (fun cl C s₀ H₀ fp pn=>(@Yn _ _ _ _ _ _ _ _ XG (@Y8 _ _ _ _ _ _ _ _ _ _ (Wj (K:=g.K)) (pv 1) Xs (@Xf _ _ _ (pv 0))) (@Y8 _ _ _ _ _ _ _ _ _ _ (Wj (K:=g.K)) (pv 1) (@Xf _ _ _ (@Yn _ _ _ _ _ _ _ _ YT (pv 0) Yh)) Xs))) (by intro x hx;simp at hx;first | (subst hx;exact .inl rfl) | (rcases hx with rfl | rfl<;>exact .inl rfl) | (rcases hx with rfl | rfl | rfl<;>exact .inl rfl) | (rcases hx with rfl | rfl | rfl | rfl<;>exact .inl rfl) | (rcases hx with rfl | rfl | rfl | rfl | rfl<;>exact .inl rfl)) (by rfl) (by decide) (by decide +kernel) (by intro _;rfl)) (@Xj _ _ _ _ _ _ _ ([none,some 0]) ((["place","things"]:List Str)) _ (YE 0) _ _ (.own (.cap (i:=0) rfl rfl (by first | exact .inl rfl | exact .inr rfl) .nil)) rfl (@XB _ _ _ _ _ _ rfl Ze (@Ya _ _ _ _ _ (@YG _ _ _ _ _ _ _ _ _ _ aA WI (@Ya _ _ _ _ _ (pv 0) Yc (by rfl)) (by decide +kernel) (by rfl) (by rfl) (by decide) (by decide) (by rfl) (by rfl)) Yc (by rfl)) (by rfl)) (fun cl C s₀ H₀ fp pn=>(@Yu _ _ (0) _ (show aI (["place","things"]:List Str) by decide +kernel) rfl (.inl rfl) (.inr rfl))) (fun cl C s₀ H₀ fp pn=>YV) (fun cl C s₀ H₀ fp pn=>(@Yn _ _ _ _ _ _ _ _ Pz (@Y8 _ _ _ _ _ _ _ _ _ _ GZ (pv 1) Xs (@Xf _ _ _ (pv 0))) (@Y8 _ _ _ _ _ _ _ _ _ _ GZ (pv 1) (@Xf _ _ _ (@Yn _ _ _ _ _ _ _ _ YT (pv 0) Yh)) Xs))) (by intro x hx;simp at hx;first | (subst hx;exact .inl rfl) | (rcases hx with rfl | rfl<;>exact .inl rfl) | (rcases hx with rfl | rfl | rfl<;>exact .inl rfl) | (rcases hx with rfl | rfl | rfl | rfl<;>exact .inl rfl) | (rcases hx with rfl | rfl | rfl | rfl | rfl<;>exact .inl rfl)) (by rfl) (by decide) (by decide +kernel) (by intro _;rfl))))),?_⟩;rcases h with ⟨l,rfl,hl,q⟩ | ⟨T,us,rfl,hT,hl,q⟩
 ·walk_at "rd"
  refine .inr (Wy (n:=l.length) (fun D i zs H'=>zs=((ai i).map fun i=>V.str (S (l.take i++l.drop (i+1))))/\H' D=some (.lst zs)/\Ye H H') (fun R r=>?_) (by omega) ?_ ?_ ?_ ?_)
  ·walk_at "rd"
   have e:(S l).length=l.length:=XO l;rw [e];exact ⟨few (by omega),r⟩
  ·intro D hD
   exact ⟨rfl,Yb,.aj hD _⟩
  ·rintro D i zs H' ⟨rfl,h1,_⟩
   exact ⟨by simp,h1⟩
  ·rintro D i zs H' hD hi ⟨rfl,hd,sm⟩ R r
   walk_at "rd";refine ⟨_,rfl,by rw [XO];exact few (by omega),?_⟩;rw [S5];refine ⟨_,rfl,by rw [XO];exact few (by omega),?_⟩;rw [show (i:Int)+1=((i+1:Nat):Int) by omega,SX];refine ⟨_,rfl,_,rfl,few (by rw [XO,XO,ι,a8];omega),?_⟩;rw [wJ];refine r _ H' hd ⟨?_,Yb,.aP hD sm _⟩;rw [dL,ξ];rfl
  ·rintro D zs H' hD ⟨rfl,hd,sm⟩
   refine q D H' sm hD ?_;rw [hd,wo,dA];rfl
 walk_at "rd";refine .inl ?_;refine Wy (n:=us.length) (fun D i zs H'=>∃ as:List Addr,zs=as.map V.ref/\as.length=i/\H' D=some (.lst zs)/\Ye H H'/\D∉as/\Nl H H' as ((ai i).map fun i=>us.take i++us.drop (i+1))) (fun R r=>?_) (by omega) ?_ ?_ ?_ ?_
 ·walk_at "rd"
  exact ⟨_,.inl (ao.of hT),r⟩
 ·intro D hD
  exact ⟨[],rfl,rfl,Yb,.aj hD _,by simp,⟨rfl,(fun a h=>by cases h),List.nodup_nil,fun i a z h=>by cases h⟩⟩
 ·rintro D i zs H' ⟨as,rfl,h1,h2,_⟩
  exact ⟨by rw [Ε,h1],h2⟩
 ·rintro D i zs H' hD hi ⟨as,rfl,hal,hd,sm,jP,nl⟩ R r
  walk_at "rd";refine ⟨_,ao.of (sm _ _ hT),fun X gX=>?_⟩;rw [Wh];have sX:=Ye.aj gX (.lst (us.take i));refine ⟨_,ao.of (sX _ _ (sm _ _ hT)),fun Y gY=>?_⟩;rw [show (i:Int)+1=((i+1:Nat):Int) by omega,VW];have sY:=Ye.aj gY (.lst (us.drop (i+1)));refine ⟨_,sY _ _ Yb,_,Yb,few (by simp;omega),fun Z gZ=>?_⟩;have sZ:=Ye.aj gZ (.lst (us.take i++us.drop (i+1)));have s3:=(sX.trans sY).trans sZ;have Aa:H' Z=none:=(sX.trans sY).free gZ;have pO:Z≠D:=ω (Yj hd Aa);refine r _ _ (s3 _ _ hd) ⟨as++[Z],by rw [ξ];rfl,by rw [Ζ,hal];rfl,Yb,.aP hD (sm.trans s3) _,fun h=>?_,?_⟩
  ·rcases η.mp h with h | h
   ·exact jP h
   ·exact pO (ς.mp h).symm
  ·rw [dL,ξ]
   refine nl.snoc (sm.free Aa) Aa (by rw [Yg pO,Yb]) (fun b hb o e=>?_);rw [Yg fun z=>jP (by rw [<- z];exact hb)];exact s3 _ _ e
 ·rintro D zs H' hD ⟨as,rfl,hal,hd,sm,jP,nl⟩
  exact q D as H' sm hD hd nl
section
 variable {src:List (Option Nat)} {te:TE} {σ:St} {H:Hp} {Q:VK}
theorem YeS {K:Κ} {tl:TE} {b:Addr} {xs:List V} (zs:List (List V)) (ha:∀ R:V->Hp->Prop,R (.ref b) H->tl σ H R) (hS:H b=some (.lst xs)) (hz:zs.length=xs.length) (hlen:xs.length<=100000)
  (step:∀ (i:Nat) x z H',xs[i]?=some x->zs[i]?=some z->Ye H H'->∀ R:VK,(∀ a aF,Ye H' aF->H' a=none->aF a=some (.lst z)->R (.ref a) aF)->te (some x::YF src σ) H' R)
  (fin:∀ D as H',Ye H H'->H D=none->H' D=some (.lst (as.map V.ref))->Nl H H' as zs->Q (.ref D) H'):dj (none::src) (XM K tl) (YE 0) XI te σ H Q:=by
 refine YdB (b:=b) (fun D i ys H'=>∃ as:List Addr,ys=as.map V.ref/\as.length=i/\H' D=some (.lst ys)/\Ye H H'/\D∉as/\Nl H H' as (zs.take i)) ha (ao.of hS) hlen ?_ ?_ ?_ ?_
 ·intro D hD
  exact ⟨[],rfl,rfl,Yb,.aj hD _,by simp,⟨by simp,(fun a h=>by cases h),List.nodup_nil,fun i a z h=>by cases h⟩⟩
 ·rintro D i ys H' hD ⟨as,rfl,h1,h2,sm,_⟩
  exact ⟨by rw [Ε,h1],h2,ao.of (sm _ _ hS)⟩
 ·rintro D i x ys H' hD hx ⟨as,rfl,hal,hd,sm,jP,nl⟩ R r
  have hi:=(Ι.mp hx).1;have J3:zs[i]?=some (zs[i]'(by omega)):=Χ _;refine step i x _ H' hx J3 sm R fun Z aF s2 gZ hZ=>?_
  have pO:Z≠D:=ω (Yj hd gZ);refine r _ _ (s2 _ _ hd) ⟨as++[Z],by rw [ξ];rfl,by rw [Ζ,hal];rfl,Yb,.aP hD (sm.trans s2) _,fun h=>?_,?_⟩
  ·rcases η.mp h with h | h
   ·exact jP h
   ·exact pO (ς.mp h).symm
  ·rw [Xb J3]
   refine nl.snoc (sm.free gZ) gZ (by rw [Yg pO];exact hZ) (fun b hb o e=>?_);rw [Yg fun z=>jP (by rw [<- z];exact hb)];exact s2 _ _ e
 ·rintro D ys H' hD ⟨as,rfl,hal,hd,sm,jP,nl⟩
  rw [<- hz,c9] at nl
  exact fin D as H' sm hD hd nl
end
def J4 (H:Hp) (is_:List Addr) (ss:List (List V)):Prop:=is_.length=ss.length/\∀ (i:Nat) a s,is_[i]?=some a->ss[i]?=some s->H a=some (.lst s)
inductive pP (K:Κ) (vs:List V) (H:Hp) (Q:VK) (E_:XK):Prop
 | mk (T I:Addr) (us:List V) (is_:List Addr) (ss:List (List V)) (h0:vs=[.ref T,.ref I]) (h1:H T=some (.lst us)) (h2:us.length<=100) (h3:H I=some (.lst (is_.map V.ref))) (h4:is_.length<=100) (h5:J4 H is_ ss) (h6:(∃ M,(∀ s∈ss,s.length<=M)/\M*is_.length<=30000)) (h7:∀ D as H',Ye H H'->H D=none->H' D=some (.lst (as.map V.ref))->D∉as->Nl H H' as (wi us ss)->Q (.ref D) H')
theorem Q7 {α:Type} {M:Nat} {us:List α} {ss:List (List α)} (h:∀ s∈ss,s.length<=M):∀ i≤ss.length,(((ai i).map fun i=>(ss.getD i []).map fun s=>us.take i++[s]++us.drop (i+1)).flatten).length<=M*i
 | 0,_=>by simp
 | i+1,hi=>by
  have ih:=Q7 (us:=us) h i (by omega);rw [dL,ξ,List.flatten_append,Ζ];have:(ss.getD i []).length<=M:=by
   rw [d3,Χ (by omega)];exact h _ (List.getElem_mem _)
  simp only [af,c6,List.flatten_cons,List.flatten_nil,ay,Ε];rw [i9];omega
theorem Nl.app {H H1 H':Hp} {as bs:List Addr} {zs ys:List (List V)} (h:Nl H H1 as zs) (h2:Nl H1 H' bs ys) (al:∀ a∈as,H1 a≠none) (f:∀ x,H1 x=none->H x=none) (k:∀ a∈as,∀ o,H1 a=some o->H' a=some o):Nl H H' (as++bs) (zs++ys):=by
 refine ⟨by rw [Ζ,Ζ,h.len,h2.len],fun a ha=>?_,?_,fun i a z e1 e2=>?_⟩
 ·rcases η.mp ha with ha | ha
  ·exact h.nw a ha
  ·exact f a (h2.nw a ha)
 ·rw [cz]
  refine ⟨h.nd,h2.nd,fun x hx y hy e=>?_⟩;subst e;exact al x hx (h2.nw x hy)
 ·by_cases c:i<as.length
  ·rw [ag c] at e1
   rw [ag (by have:=h.len;omega)] at e2
   exact k a (Τ e1) _ (h.at_ i a z e1 e2)
  ·rw [ar (by omega)] at e1
   rw [ar (by have:=h.len;omega),<- h.len] at e2
   exact h2.at_ _ a z e1 e2
theorem Z3h  (R:g.Raw "with_each_step" "with_each_step" yF ["things","inner"]) (Zi:g.mg "enumerate"=none):g.Fn (1) "with_each_step" ["things","inner"] (pP g.K):=by
 refine R.fn ZJ (fun vs H Q E h=>by obtain ⟨T,I,us,is_,ss,rfl,hT,Ab,hI,hil,hss,⟨M,hsl,hM⟩,q⟩:=h;rfl) fun f_ cdv A outer s H vs Q E hr h=>?_
 obtain ⟨T,I,us,is_,ss,rfl,hT,Ab,hI,hil,hss,⟨M,hsl,hM⟩,q⟩:=h;refine ⟨_,(@Yd _ _ _ _ _ (@Yr _ _ (2) _ _ _ _ ZJ.nd rfl (.inl rfl) (@YU _ _ _ _ Yc) (by rfl) (by first | exact .inl rfl | exact .inr rfl | assumption)) (@Yd _ _ _ _ _ (@Xo _ _ _ _ _ _ _ _ ae rfl (@Ui _ _ _ _ _ _ _ _ rfl Zi (@Ya _ _ _ _ _ (pv 1) Yc (by rfl)) (by rfl)) (@WH _ _ _ _ _ (2) rfl (@Y7 _ _ _ _ _ (@Yu _ _ (3) _ ZJ.nd rfl (.inr rfl) (by first | exact .inl rfl | exact .inr rfl | assumption)) (@Y7 _ _ _ _ _ (@Yu _ _ (4) _ ZJ.nd rfl (.inl rfl) (by first | exact .inl rfl | exact .inr rfl | assumption)) Wf (by rfl)) (by rfl)) (by rfl) (by rfl)) (@Yf _ _ _ (@Y0 _ _ _ _ (@Xw _ _ _ _ _ _ _ _ _ _ _ _ PySem.F.plainAttrs_list PySem.F.slot_list_extend PySem.F.type_list_extend VC (pv 2) (@Ya _ _ _ _ _ (@Xj _ _ _ _ _ _ _ ([none,some 0,some 3]) ((["step","things","place"]:List Str)) _ (YE 0) _ _ (.own (.cap (i:=0) rfl rfl (by first | exact .inl rfl | exact .inr rfl) (.cap (i:=3) rfl rfl (by first | exact .inl rfl | exact .inr rfl) .nil))) rfl (@YW _ _ _ _ (pv 4)) (fun cl C s₀ H₀ fp pn=>(@Yu _ _ (0) _ (show aI (["step","things","place"]:List Str) by decide +kernel) rfl (.inl rfl) (.inr rfl))) (fun cl C s₀ H₀ fp pn=>YV) (fun cl C s₀ H₀ fp pn=>(@Yn _ _ _ _ _ _ _ _ XG (@Yn _ _ _ _ _ _ _ _ XG (@Y8 _ _ _ _ _ _ _ _ _ _ (Wj (K:=g.K)) (pv 1) Xs (@Xf _ _ _ (pv 2))) (@YU _ _ _ _ (@Ya _ _ _ _ _ (pv 0) Yc (by rfl)))) (@Y8 _ _ _ _ _ _ _ _ _ _ (Wj (K:=g.K)) (pv 1) (@Xf _ _ _ (@Yn _ _ _ _ _ _ _ _ YT (pv 2) Yh)) Xs))) (by intro x hx;simp at hx;first | (subst hx;exact .inl rfl) | (rcases hx with rfl | rfl<;>exact .inl rfl) | (rcases hx with rfl | rfl | rfl<;>exact .inl rfl) | (rcases hx with rfl | rfl | rfl | rfl<;>exact .inl rfl) | (rcases hx with rfl | rfl | rfl | rfl | rfl<;>exact .inl rfl)) (by rfl) (by decide) (by decide +kernel) (by intro _;rfl)) Yc (by rfl)) (by rfl) (by rfl) (by rfl) (by rfl) (by rfl)) (by rfl))) (by intro _;rfl)) (@Yf _ _ _ (@Yl _ _ _ _ (pv 2))))),?_⟩;refine Yp fun R rr=>?_
 walk_at "rd";refine ⟨few (by decide),fun C gC=>rr _ _ (Yp fun R rr=>?_)⟩;have sC:=Ye.aj gC (.lst []);refine Vn (K:=g.K) (a:=I) (xs:=is_.map V.ref) (fun i σ H'=>∃ (o3 o4:Option V) (as:List Addr),σ=[some (.ref T),some (.ref I),some (.ref C),o3,o4]/\SameBut C H H'/\H' C=some (.lst (as.map V.ref))/\C∉as/\Nl H H' as (((ai i).map fun i=>(ss.getD i []).map fun s=>us.take i++[s]++us.drop (i+1)).flatten)) (fun R r=>by walk_at "rd";exact r) ⟨none,none,[],rfl,fun b o nb e=>sC _ _ e,Yb,by simp,⟨rfl,(fun a h=>by cases h),List.nodup_nil,fun i a z h=>by cases h⟩⟩ (fun i σ H' _ ⟨_,_,_,_,sb,_,_,_⟩=>ao.of (sb _ _ (Yj hI gC) hI)) ?_ ?_
 ·rintro i x σ H' Z hx ⟨o3,o4,as,rfl,sb,hC,uN,nl⟩ gZ
  rw [Ν] at hx
  obtain ⟨ii,J5,rfl⟩:=ο.mp hx;have hi:=(Ι.mp J5).1;have hsi:ss[i]?=some (ss[i]'(by have:=hss.1;omega)):=Χ _;generalize ss[i]'(by have:=hss.1;omega)=sl at hsi;have afP:=hsl _ (Τ hsi);have his:=hss.2 i ii sl J5 hsi;have sZ:=Ye.aj gZ (.tup [.int (i:Int),.ref ii]);refine ⟨Z,_,rfl,aq.of Yb,rfl,_,_,rfl,_,_,rfl,rfl,?_⟩;walk_at "rd";have hT1:=sZ _ _ (sb _ _ (Yj hT gC) hT);have jQ:=sZ _ _ hC;have Ac:SameBut C H (upd H' Z (.tup [.int (i:Int),.ref ii])):=fun b o nb e=>sZ _ _ (sb b o nb e)
  have eX:Nl H (upd H' Z (.tup [.int (i:Int),.ref ii])) as _:=⟨nl.len,nl.nw,nl.nd,fun j a z e1 e2=>sZ _ _ (nl.at_ j a z e1 e2)⟩;have hll:=Q7 (us:=us) hsl i (by have:=hss.1;omega);rw [<- nl.len] at hll
  have hMi:M*i+M<=M*is_.length:=by rw [<- i9];exact eo M (by omega)
  have Ad:=sZ _ _ (sb _ _ (Yj his gC) his);generalize upd H' Z (.tup [.int (i:Int),.ref ii])=H1 at sZ hT1 jQ Ac eX Ad;refine ⟨.inl ⟨rfl,_,ao.of jQ⟩,?_⟩;refine YeS (K:=g.K) (b:=ii) (xs:=sl) (sl.map fun s=>us.take i++[s]++us.drop (i+1)) (fun R r=>by walk_at "rd";exact r) Ad (by simp) (by omega) ?_ ?_
  ·intro j y z H2 hy hz sm R r
   rw [Ν,hy] at hz
   cases Λ hz
   walk_at "rd";refine ⟨_,ao.of (sm _ _ hT1),fun X gX=>?_⟩;rw [Wh];have sX:=Ye.aj gX (.lst (us.take i));refine ⟨few (by decide),fun Y gY=>?_⟩;have sY:=Ye.aj gY (.lst [y]);refine ⟨_,sY _ _ Yb,_,Yb,few (by simp;omega),fun W gW=>?_⟩;have sW:=Ye.aj gW (.lst (us.take i++[y]));refine ⟨_,ao.of (sW _ _ (sY _ _ (sX _ _ (sm _ _ hT1)))),fun X2 gX2=>?_⟩;rw [show (i:Int)+1=((i+1:Nat):Int) by omega,VW];have J6:=Ye.aj gX2 (.lst (us.drop (i+1)));refine ⟨_,J6 _ _ Yb,_,Yb,few (by simp;omega),fun A gA=>?_⟩;have s5:=((sX.trans sY).trans sW).trans J6;exact r A _ (s5.trans (.aj gA _)) (s5.free gA) Yb
  ·intro D bs H2 sm gD hD dM
   have hC2:=sm _ _ jQ;have nCD:C≠D:=Yj jQ gD;refine ⟨C,D,_,_,rfl,rfl,hC2,hD,few (by have:=dM.len;simp at this;simp;omega),fun b o nb e=>by rw [Yg nb];exact sm _ _ (Ac b o nb e),as++bs,by rw [Yb,ξ],?_,?_⟩
   ·intro h
    rcases η.mp h with h | h
    ·exact uN h
    ·have:=dM.nw C h;rw [jQ] at this;cases this
   ·rw [dL,ξ,List.flatten_append]
    have e0:ss.getD i []=sl:=by rw [d3,hsi];rfl
    simp only [af,c6,List.flatten_cons,List.flatten_nil,ay,e0];have alv:∀ a∈as,H1 a≠none:=fun a ha=>by
     obtain ⟨j,hj⟩:=List.getElem?_of_mem ha;have e:=(Ι.mp hj).1;have hz:(((ai i).map fun i=>(ss.getD i []).map fun s=>us.take i++[s]++us.drop (i+1)).flatten)[j]?=some ((((ai i).map fun i=>(ss.getD i []).map fun s=>us.take i++[s]++us.drop (i+1)).flatten)[j]'(by rw [<- eX.len];exact e)):=Χ _;rw [eX.at_ j a _ hj hz];simp
    have hb:∀ b∈bs,b≠C:=fun b hb z=>by have:=dM.nw b hb;rw [z,jQ] at this;cases this
    refine eX.app ⟨dM.len,dM.nw,dM.nd,fun j a z e1 e2=>by rw [Yg (hb a (Τ e1))];exact dM.at_ j a z e1 e2⟩ alv (fun x gx=>?_) (fun a ha o e=>by rw [Yg fun z=>uN (by rw [<- z];exact ha)];exact sm _ _ e)
    cases e:H x with
    | none=>rfl
    | some o =>
     by_cases c:x=C
     ·rw [c,jQ] at gx;cases gx
     ·rw [Ac x o c e] at gx;cases gx
 ·rintro σ H' ⟨o3,o4,as,rfl,sb,hC,uN,nl⟩
  refine rr _ _ ?_;walk_at "rd";rw [Ε,hss.1] at nl
  exact q C as H' (fun b o e=>sb b o (Yj e gC) e) gC hC uN nl
section
 variable {α β:Type} {R:α->β->Prop}
theorem F2.wo {as:List α} {bs:List β} (h:F2 R as bs):F2 (F2 R) (KW.wo as) (KW.wo bs):=by
 unfold KW.wo;rw [h.len];exact F2.rng fun i _=>(h.take i).app (h.drop (i+1))
theorem F2.wi {as:List α} {bs:List β} {ss:List (List α)} {L:List (List β)} (h:F2 R as bs) (k:F2 (F2 R) ss L):F2 (F2 R) (KW.wi as ss) (KW.wi bs L):=by
 unfold KW.wi;rw [k.len];exact F2.flat (F2.rng fun i _=>F2.map (f:=fun s=>as.take i++[s]++as.drop (i+1)) (g:=fun s=>bs.take i++[s]++bs.drop (i+1)) (fun s t e=>((h.take i).app (.cons e .nil)).app (h.drop (i+1))) (k.getD i))
end
theorem Ae {H:Hp} {us:List V} {ds:List Β} (h:aV H us ds):F2 (DV H) us ds := .of h.length fun i u d e1 e2=>XQ h e1 e2
theorem F2.bB {H:Hp} {us:List V} {ds:List Β} (h:F2 (DV H) us ds):aV H us ds:=Jl h.len h.get
theorem J7:∀ f o,(hal f o).length<=f
 | 0,_=>Μ _
 | f+1,o=>by
  rw [hal]
  split
  ·exact az _
  ·rw [am];have:=J7 f (o / 2);omega
theorem J8 (o:Nat):(mF o).length<=20:=by rw [mF,List.length_reverse];exact J7 20 o
theorem UN {α:Type} (us:List α):(wo us).length=us.length:=by unfold wo;rw [Ε,cE]
def gO (lo:Int):Β->List Β
 | .int i=>(mF (i - lo).toNat).map fun (x:Nat) => .int (lo+(x:Nat))
 | _=>[]
def st (lo:Int):Sh->Β->List Β
 | .wh,d=>gO lo d
 | .tx,.str z=>(wo z.cps.toList).map fun l => .str (S l)
 | .pk,.tuple [m,e]=>Vq lo (.tuple [m,e])++(gO lo e).map fun t => .tuple [m,t]
 | .my p,.list ds=>(wo ds++wi ds (ds.map (st lo p))).map .list
 | _,_=>[]
theorem Yg1 {lo:Int} {k:Bool} {e:Β} (g:gd lo (gH k) e):st lo (gH k) e=gO lo e:=by
 cases k with
 | false=>cases (show e=_ from g);rfl
 | true=>rfl
def fV:Sh->Nat
 | .wh=>20 | .tx=>4 | .rw=>0 | .pk=>21 | .my p=>4+4*fV p
theorem Af {s:Sh} (h:aQ s<=3):fV s<=340:=by
 match s,h with
 | .wh,_=>decide
 | .tx,_=>decide
 | .rw,_=>decide
 | .pk,_=>decide
 | .my .wh,_=>decide
 | .my .tx,_=>decide
 | .my .rw,_=>decide
 | .my .pk,_=>decide
 | .my (.my .wh),_=>decide
 | .my (.my .tx),_=>decide
 | .my (.my .rw),_=>decide
 | .my (.my .pk),h=>simp [aQ] at h
 | .my (.my (.my p)),h=>have:aQ p≠0:=(by cases p<;>simp [aQ]);simp [aQ] at h;omega
theorem UO (lo:Int) (d:Β):(gO lo d).length<=20:=by
 cases d<;>first | (rw [gO,Ε];exact J8 _) | simp [gO]
theorem UP {lo:Int}:∀ {s:Sh} {d:Β},gd lo s d->(st lo s d).length<=fV s
 | .wh,d,_=>UO lo d
 | .tx,_,⟨l,_,n,e⟩=>by subst e;rw [st,Ε,UN,XU];exact n
 | .rw,d,_=>by simp [st]
 | .pk,d,g=>by
  have h1:∀ d,(Vq lo d).length<=1:=fun d=>by unfold Vq;split<;>simp
  rcases g with rfl | ⟨o,_,rfl⟩
  ·have:=UO lo (.tuple [])
   have:=h1 (.tuple [.str "ask",.tuple []]);rw [st,Ζ,Ε];simp only [fV];omega
  ·have:=UO lo (.int (lo+o))
   have:=h1 (.tuple [.str "put",.int (lo+o)]);rw [st,Ζ,Ε];simp only [fV];omega
 | .my p,_,⟨ds,n,g,e⟩=>by
  subst e;have h:=Q7 (us:=ds) (ss:=ds.map (st lo p)) (M:=fV p) (fun s hs=>by obtain ⟨e,he,rfl⟩:=aw.mp hs;exact UP (g e he)) _ (Μ _);rw [Ε] at h
  have h2:fV p*ds.length<=fV p*4:=eo _ n;have h3:(wi ds (ds.map (st lo p))).length<=fV p*ds.length:=by unfold wi;rw [Ε];exact h
  rw [st,Ε,Ζ,UN];simp only [fV];omega
theorem YeT:∀ o≤7,∀ s∈mF o,fQ s<fQ o/\s<=7:=by decide +kernel
theorem J9 {lo:Int} {o:Nat} {d:Β} (ho:o<=7) (h:d∈gO lo (.int (lo+o))):∃ x:Nat,x<=7/\fQ x<fQ o/\d = .int (lo+x):=by
 rw [gO,Wt] at h
 obtain ⟨x,hx,rfl⟩:=aw.mp h;obtain ⟨h1,h2⟩:=YeT o ho x hx;exact ⟨x,h2,h1,rfl⟩
theorem Ygn {f:Β->Nat} (ds:List Β) (i c:Nat) (hi:i<ds.length) (hc:0<c):(ds.take i++ds.drop (i+c)).length+((ds.take i++ds.drop (i+c)).map f).sum<ds.length+(ds.map f).sum:=by
 have e:ds=ds.take i++((ds.drop i).take c++ds.drop (i+c)):=by
  rw [show ds.drop (i+c)=(ds.drop i).drop c by rw [List.drop_drop],List.take_append_drop,List.take_append_drop]
 have h3:=congrArg (fun l=>(l.map f).sum) e;simp only [ξ,ij] at h3;simp only [Ζ,ξ,ij,ι,a8];omega
structure uO (lo:Int) (p:Sh) (ds l:List Β):Prop where
 sz:l.length+(l.map (sz lo p)).sum<ds.length+(ds.map (KW.sz lo p)).sum
 ok:(∀ x∈ds,gd lo p x)->∀ x∈l,gd lo p x
 len:l.length<=ds.length
theorem Ka (lo:Int) (p:Sh) (ds:List Β) (i c:Nat) (hi:i<ds.length) (hc:0<c):uO lo p ds (ds.take i++ds.drop (i+c)):=⟨Ygn ds i c hi hc,fun k x hx=>(by
 rcases η.mp hx with hx | hx
 ·exact k x (eT hx)
 ·exact k x (eW hx)),by rw [Ζ,ι,a8];omega⟩
theorem Ag {α:Type} {l x:List α} (h:x∈wo l):x.length+1=l.length/\∀ c∈x,c∈l:=by
 obtain ⟨i,hi,rfl⟩:=aw.mp h;rw [b8] at hi
 refine ⟨by rw [Ζ,ι,a8];omega,fun c hc=>?_⟩;rcases η.mp hc with hc | hc
 ·exact eT hc
 ·exact eW hc
theorem Kc {lo:Int} {p:Sh} {ds:List Β} (g:∀ e∈ds,gd lo p e) (k:∀ e∈ds,∀ x∈st lo p e,gd lo p x/\sz lo p x<sz lo p e) {l:List Β} (h:l∈wo ds++wi ds (ds.map (st lo p))):uO lo p ds l:=by
 rcases η.mp h with h | h
 ·obtain ⟨i,hi,rfl⟩:=aw.mp h
  exact Ka lo p ds i 1 (b8.mp hi) (by decide)
 ·obtain ⟨m,hm,h⟩:=List.mem_flatten.mp h
  obtain ⟨i,hi,rfl⟩:=aw.mp hm;obtain ⟨s,hs,rfl⟩:=aw.mp h;rw [b8,Ε] at hi
  have hx:ds[i]?=some ds[i]:=Χ hi;have hmx:=Τ hx;rw [d3,Ν,hx] at hs
  obtain ⟨d1,d2⟩:=k _ hmx s hs;have e:ds=ds.take i++([ds[i]]++ds.drop (i+1)):=by
   rw [List.singleton_append,List.getElem_cons_drop,List.take_append_drop]
  have h3:=congrArg (fun l=>(l.map (sz lo p)).sum) e;simp only [ξ,ij,af,c6,gy,List.sum_nil] at h3;refine ⟨?_,fun k x hx=>?_,?_⟩
  ·simp only [Ζ,ξ,ij,ι,a8,δ,af,c6,gy,List.sum_nil]
   omega
  ·rcases η.mp hx with hx | hx
   ·rcases η.mp hx with hx | hx
    ·exact k x (eT hx)
    ·rw [ς.mp hx];exact d1
   ·exact k x (eW hx)
  ·rw [Ζ,Ζ,ι,a8,δ];omega
theorem Ah {lo:Int}:∀ {s:Sh} {d x:Β},gd lo s d->x∈st lo s d->gd lo s x/\sz lo s x<sz lo s d
 | .wh,_,x,⟨o,ho,e⟩,h=>by
  subst e;obtain ⟨y,h1,h2,rfl⟩:=J9 ho h;exact ⟨⟨y,h1,rfl⟩,by simp only [sz,Wt];exact h2⟩
 | .tx,_,x,⟨l,hl,n,e⟩,h=>by
  subst e;rw [st,XU] at h
  obtain ⟨y,hy,rfl⟩:=aw.mp h;have:=Ag hy;exact ⟨⟨y,fun c hc=>hl c (this.2 c hc),by omega,rfl⟩,by simp only [sz,XO];omega⟩
 | .rw,_,x,g,h=>by cases (show _=PyData.tuple [] from g);cases h
 | .pk,d,x,g,h=>by
  have h0:∀ d,x∈Vq lo d->x=oZ/\0<sz lo .pk d:=fun d hx=>by
   unfold Vq at hx
   split at hx
   ·cases hx
   ·exact ⟨ς.mp hx,by omega⟩
  rcases g with rfl | ⟨o,ho,rfl⟩
  ·rcases η.mp h with h | h
   ·exact absurd (h0 _ h).2 (by simp [sz])
   ·cases h
  ·rcases η.mp h with h | h
   ·obtain ⟨e,h'⟩:=h0 _ h
    exact ⟨.inl e,by rw [e];exact h'⟩
   ·obtain ⟨t,ht,rfl⟩:=aw.mp h
    obtain ⟨y,h1,h2,rfl⟩:=J9 ho ht;exact ⟨.inr ⟨y,h1,rfl⟩,by simp only [sz,Wt];exact h2⟩
 | .my p,_,x,⟨ds,n,g,e⟩,h=>by
  subst e;obtain ⟨l,hl,rfl⟩:=aw.mp h;have ls:=Kc g (fun e he x hx=>Ah (g e he) hx) hl;exact ⟨⟨l,ah ls.len n,ls.ok g,rfl⟩,ls.sz⟩
section
 variable {P:Ο} {w:ε} {K:Κ} {C:Cs} {CL CS:Addr} {G H G' H':Hp} {st ds ls dl d:Addr} {b:V} {f f':Option (Addr×List Addr)} {xs:Dx}
theorem SI.new (L:SI P w K C CL CS G H st ds ls dl d b f xs) (s:Ye H H'):SI P w K C CL CS (fU d f G H H') H' st ds ls dl d b f xs/\Fz d G H f (fU d f G H H') H' f:=by
 obtain ⟨a,s',o⟩:=JM L (Qj (d:=d) (G:=G) (f:=f) s).go (L.sg.trans s);exact ⟨⟨s _ _ L.bx,(L.same s).li,s',o⟩,a⟩
theorem SI.jR (L:SI P w K C CL CS G H st ds ls dl d b f xs) {x:Addr} {o:HO} (n:H x=none) (e:H' x=some o):fU d f G H H' x=some o:=V3 (L.li.new n) n e
end
theorem Kd {G:Hp} {α:Type} {f:α->List Β}:∀ {is_:List V} {L:List α},F2 (fun v w=>DV G v (.list (f w))) is_ L->∃ (as:List Addr) (ss:List (List V)),is_=as.map V.ref/\J4 G as ss/\F2 (aV G) ss (L.map f)
 | _,_,.nil=>⟨[],[],rfl,⟨rfl,fun i a s h=>by cases h⟩,.nil⟩
 | _,_,.cons h t=>by
  obtain ⟨as,ss,rfl,h2,h3⟩:=Kd t;obtain ⟨a,us,rfl,ha,_,hu⟩:=h.bD;refine ⟨a::as,us::ss,rfl,⟨congrArg (·+1) h2.1,fun i x y e1 e2=>?_⟩,.cons hu h3⟩
  cases i with
  | zero=>cases Λ e1;cases Λ e2;exact ha
  | succ i=>exact h2.2 i x y e1 e2
theorem Ke {G' H H':Hp} {as:List Addr} {zs:List (List V)} {L:List (List Β)} (n:Nl H H' as zs) (k:∀ x o,H x=none->H' x=some o->(∀ ys,o = .lst ys->ys.length<=100)->G' x=some o) (l:∀ z∈zs,z.length<=100) (h:F2 (aV G') zs L):aV G' (as.map V.ref) (L.map .list):=by
 refine F2.bB (F2.of (by rw [Ε,Ε,n.len,h.len]) fun i u d e1 e2=>?_);rw [Ν] at e1 e2
 obtain ⟨a,ha,rfl⟩:=ο.mp e1;obtain ⟨x,hx,rfl⟩:=ο.mp e2;have hi:=(Ι.mp hx).1;have hz:zs[i]?=some (zs[i]'(by have:=h.len;omega)):=Χ _;have hl:=l _ (Τ hz);exact .lst (k a _ (n.nw a (Τ ha)) (n.at_ i a _ ha hz) fun ys e=>by cases e;exact hl) (by omega) (h.get i _ x hz hx)
inductive pQ (P:Ο) (w:ε) (K:Κ) (C:Cs) (CL CS:Addr) (vs:List V) (H:Hp) (Q:VK) (E_:XK):Prop
 | mk (bx ds ls dl dd:Addr) (b:V) (f:Option (Addr×List Addr)) (xs:Dx) (lo:Int) (x v:V) (s:Sh) (d:Β) (L:List (Sh×Β)) (I:Addr) (is_:List V) (G:Hp) (h0:vs=[.ref bx,x,v,.ref I]) (h1:SI P w K C CL CS G H bx ds ls dl dd b f xs) (h2:DV G x (bR lo s)) (h3:DV G v d) (h4:Wn lo s d L) (h5:aQ s<=3) (h6:H I=some (.lst is_)) (h7:¬ mu dd f I) (h8:F2 (fun v w=>DV G v (.list (st lo w.1 w.2))) is_ L) (h9:∀ r H' G' f' xs',SI P w K C CL CS G' H' bx ds ls dl dd b f' xs'->Fz dd G H f G' H' f'->DV G' r (.list (st lo s d))->Q r H')
theorem Yg2 {H:Hp} (L:List (List Nat)) (h:∀ l∈L,∀ c∈l,c=97\/c=98):aV H (L.map fun z=>V.str (S z)) (L.map fun l => .str (S l)):=by
 induction L with
 | nil=>exact .nil
 | cons l L ih =>
  refine .cons (Wm _ ?_) (ih fun l hl=>h l (.tail _ hl))
  show l.toArray.all (·<0x110000)=true
  rw [List.all_toArray,List.all_eq_true];intro c hc;have:=h l (.head _) c hc;exact decide_eq_true (by omega)
theorem Ygo {H:Hp} (lo:Int) (L:List Nat):aV H (L.map fun (x:Nat)=>V.int (lo+(x:Nat))) (L.map fun (x:Nat) => .int (lo+(x:Nat))):=by
 induction L with
 | nil=>exact .nil
 | cons l L ih=>exact .cons (qW _) ih
theorem Z2B {k:Nat} {Z4 Z0 Z1 Z2:Addr} (R:g.bC Z2 "steps_by" "Stepper.steps_by" zy ["self","shape","value","inner"]) (jd:g.Fn k "whole_steps" ["low","value"] (uL g.K)) (Kf:g.Fn k "without_each" ["things"] (uM g.K)) (Kg:g.Fn k "with_each_step" ["things","inner"] (pP g.K)) (Z1D:g.Me k Z2 "leasts_ahead" ["self","shape","value"] (uF g.P g.w g.K (Cs.mk Z0 Z1) Z4 Z2)) (aH:g.mg "list"=none) (Z5:g.mg "tuple"=none) (Zc:Cls g.K Z2) (Zb:Yt g.K Z2 "book") (Z8:Yt g.K Z2 "lister"):g.Me (k+1) Z2 "steps_by" ["self","shape","value","inner"] (pQ g.P g.w g.K (Cs.mk Z0 Z1) Z4 Z2):=by
 refine R.me zA (fun vs H Q E h=>by obtain ⟨bx,ds,ls,dl,dd,b,f,xs,lo,x,v,s,d,L,I,is_,G,rfl,si,hS,hv,hw,hm,hI,nI,inn,q⟩:=h;rfl) fun f_ cdv A outer s H vs Q E hr h=>?_
 obtain ⟨bx,ds,ls,dl,dd,b,f,xs,lo,x,v,s,d,L,I,is_,G,rfl,si,hS,hv,hw,hm,hI,nI,inn,q⟩:=h;refine ⟨_,(@Yd _ _ _ _ _ (@Yr _ _ (4) _ _ _ _ zA.nd rfl (.inr rfl) (@Yv _ _ _ _ _ _ _ YD (pv 1) Yh (fun _ _=>rfl)) (by rfl) (by first | exact .inl rfl | exact .inr rfl | assumption)) (@Yd _ _ _ _ _ (@Yx _ _ _ _ _ _ _ _ (@Yq _ _ _ _ _ _ _ _ YK (pv 4) YC (Yo _)) (@Yf _ _ _ (@Yl _ _ _ _ (@Ys _ _ _ _ _ _ _ _ _ _ _ _ jd hr (@Ya _ _ _ _ _ (@Yv _ _ _ _ _ _ _ YD (pv 1) Yh (fun _ _=>rfl)) (@Ya _ _ _ _ _ (pv 2) Yc (by rfl)) (by rfl)) (by omega) (by rfl) (by rfl) (by decide) (by rfl) (by rfl)))) Ym) (@Yd _ _ _ _ _ (@Yx _ _ _ _ _ _ _ _ (@Yq _ _ _ _ _ _ _ _ YK (pv 4) YC (Yo _)) (@Yf _ _ _ (@Yl _ _ _ _ (@Ys _ _ _ _ _ _ _ _ _ _ _ _ Kf hr (@Ya _ _ _ _ _ (pv 2) Yc (by rfl)) (by omega) (by rfl) (by rfl) (by decide) (by rfl) (by rfl)))) Ym) (@Yd _ _ _ _ _ (@Yx _ _ _ _ _ _ _ _ (@Yq _ _ _ _ _ _ _ _ YK (pv 4) YC (Yo _)) (@Yf _ _ _ (@Yl _ _ _ _ (@Xj _ _ _ _ _ _ _ ([none]) ((["things"]:List Str)) _ (YE 0) _ _ (.own .nil) rfl (@YW _ _ _ _ (@Ys _ _ _ _ _ _ _ _ _ _ _ _ Kg hr (@Ya _ _ _ _ _ (@Wp _ _ _ _ _ _ _ _ _ _ aH VB (@Ya _ _ _ _ _ (pv 2) Yc (by rfl)) (by decide +kernel) (by rfl) (by rfl) (by decide) (by decide) (by rfl) (by rfl)) (@Ya _ _ _ _ _ (pv 3) Yc (by rfl)) (by rfl)) (by omega) (by rfl) (by rfl) (by decide) (by rfl) (by rfl))) (fun cl C s₀ H₀ fp pn=>(@Yu _ _ (0) _ (show aI (["things"]:List Str) by decide +kernel) rfl (.inl rfl) (.inr rfl))) (fun cl C s₀ H₀ fp pn=>YV) (fun cl C s₀ H₀ fp pn=>(@Wp _ _ _ _ _ _ _ _ _ _ Z5 (Qb (K:=g.K)) (@Ya _ _ _ _ _ (pv 0) Yc (by rfl)) (by decide +kernel) (by rfl) (by rfl) (by decide) (by decide) (by rfl) (by rfl))) (by intro x hx;simp at hx) (by rfl) (by decide) (by decide +kernel) (by intro _;rfl)))) Ym) (@Yd _ _ _ _ _ (@Yx _ _ _ _ _ _ _ _ (@Yq _ _ _ _ _ _ _ _ YK (pv 4) YC (Yo _)) (@Yf _ _ _ Yy) Ym) (@Yd _ _ _ _ _ (@Yx _ _ _ _ _ _ _ _ (@Yq _ _ _ _ _ _ _ _ YK (pv 4) YC (Yo _)) (@Yf _ _ _ (@Yl _ _ _ _ (@Yn _ _ _ _ _ _ _ _ XG (@Wb _ _ _ _ _ _ _ _ _ _ _ _ _ _ _ _ Z1D Zc hr (pv 0) (@Ya _ _ _ _ _ (pv 1) (@Ya _ _ _ _ _ (pv 2) Yc (by rfl)) (by rfl)) (by omega) (by rfl) (by rfl) (by rfl) (by rfl)) (@Xj _ _ _ _ _ _ _ ([none,some 2]) ((["step","value"]:List Str)) _ (YE 0) _ _ (.own (.cap (i:=2) rfl rfl (by first | exact .inl rfl | exact .inr rfl) .nil)) rfl (@YW _ _ _ _ (@Yv _ _ _ _ _ _ _ Y9 (pv 3) Yh (fun _ _=>rfl))) (fun cl C s₀ H₀ fp pn=>(@Yu _ _ (0) _ (show aI (["step","value"]:List Str) by decide +kernel) rfl (.inl rfl) (.inr rfl))) (fun cl C s₀ H₀ fp pn=>YV) (fun cl C s₀ H₀ fp pn=>(@YZ _ _ _ _ _ (@Ya _ _ _ _ _ (@Yv _ _ _ _ _ _ _ (X1 (K:=g.K)) (pv 1) Yh (fun _ _=>rfl)) (@Ya _ _ _ _ _ (pv 0) Yc (by rfl)) (by rfl)))) (by intro x hx;simp at hx;first | (subst hx;exact .inl rfl) | (rcases hx with rfl | rfl<;>exact .inl rfl) | (rcases hx with rfl | rfl | rfl<;>exact .inl rfl) | (rcases hx with rfl | rfl | rfl | rfl<;>exact .inl rfl) | (rcases hx with rfl | rfl | rfl | rfl | rfl<;>exact .inl rfl)) (by rfl) (by decide) (by decide +kernel) (by intro _;rfl))))) Ym) (@Yd _ _ _ _ _ (@Yx _ _ _ _ _ _ _ _ (@Yq _ _ _ _ _ _ _ _ YK (pv 4) YC (Yo _)) (@Yf _ _ _ Yy) Ym) (@Yd _ _ _ _ _ (@Yr _ _ (5) _ _ _ _ zA.nd rfl (.inl rfl) (@Yn _ _ _ _ _ _ _ _ XG (@Ys _ _ _ _ _ _ _ _ _ _ _ _ Kf hr (@Ya _ _ _ _ _ (pv 2) Yc (by rfl)) (by omega) (by rfl) (by rfl) (by decide) (by rfl) (by rfl)) (@Ys _ _ _ _ _ _ _ _ _ _ _ _ Kg hr (@Ya _ _ _ _ _ (pv 2) (@Ya _ _ _ _ _ (pv 3) Yc (by rfl)) (by rfl)) (by omega) (by rfl) (by rfl) (by decide) (by rfl) (by rfl))) (by rfl) (by first | exact .inl rfl | exact .inr rfl | assumption)) (@Yf _ _ _ (@Yl _ _ _ _ (@Xj _ _ _ _ _ _ _ ([none,some 4,some 1,some 0]) ((["step","kind","shape","self"]:List Str)) _ (YE 0) _ _ (.own (.cap (i:=4) rfl rfl (by first | exact .inl rfl | exact .inr rfl) (.cap (i:=1) rfl rfl (by first | exact .inl rfl | exact .inr rfl) (.cap (i:=0) rfl rfl (by first | exact .inl rfl | exact .inr rfl) .nil)))) rfl (@YW _ _ _ _ (pv 5)) (fun cl C s₀ H₀ fp pn=>(@Yu _ _ (0) _ (show aI (["step","kind","shape","self"]:List Str) by decide +kernel) rfl (.inl rfl) (.inr rfl))) (fun cl C s₀ H₀ fp pn=>(@GK _ _ _ (PW.pt (@Vj _ _ _ _ _ _ _ (@Yq _ _ _ _ _ _ _ _ YK (pv 1) YC (Yo _)) (@WG _ _ _ _ Yez))))) (fun cl C s₀ H₀ fp pn=>(pv 0)) (by intro x hx;simp at hx;first | (subst hx;exact .inl rfl) | (rcases hx with rfl | rfl<;>exact .inl rfl) | (rcases hx with rfl | rfl | rfl<;>exact .inl rfl) | (rcases hx with rfl | rfl | rfl | rfl<;>exact .inl rfl) | (rcases hx with rfl | rfl | rfl | rfl | rfl<;>exact .inl rfl)) (by rfl) (by decide) (by decide +kernel) (by intro _;rfl)))))))))))),?_⟩;have sg:=si.sg;refine Yp fun R rr=>?_
 walk_at "rd"
 cases hw with
 | wh o ho =>
  obtain ⟨a,rfl,ha⟩:=Q3 hS
  cases hv.d8
  refine ⟨a,rfl,_,aq.of (sg _ _ ha),_,Yk (j:=0) rfl,rr _ _ (cR rfl rfl ?_)⟩;walk_at "rd";refine ⟨_,aq.of (sg _ _ ha),_,Yk (j:=1) rfl,lo,o,rfl,ho,fun D H' sm gD hD=>?_⟩;obtain ⟨bG,fz⟩:=si.new sm;refine q _ H' _ f xs bG fz (.lst (si.jR gD hD) (by rw [Ε];have:=J8 o;omega) ?_);rw [st,gO,Wt];exact Ygo lo _
 | tx l h n =>
  obtain ⟨a,rfl,ha⟩:=Q4 hS
  cases hv.bM.1
  refine ⟨a,rfl,_,aq.of (sg _ _ ha),_,Yk (j:=0) rfl,rr _ _ (aR rfl (by decide +kernel) (cR rfl rfl ?_))⟩;walk_at "rd";refine ⟨_,rfl,.inl ⟨l,rfl,by omega,fun D H' sm gD hD=>?_⟩⟩;obtain ⟨bG,fz⟩:=si.new sm;refine q _ H' _ f xs bG fz (.lst (si.jR gD hD) (by rw [Ε,UN];omega) ?_);rw [st,XU];exact Yg2 _ fun z hz c hc=>h c ((Ag hz).2 c hc)
 | rw =>
  obtain ⟨a,b',rfl,ha,hb⟩:=UJ hS;obtain ⟨c,rfl,hc⟩:=tV hv;refine ⟨a,rfl,_,aq.of (sg _ _ ha),_,Yk (j:=0) rfl,rr _ _ (aR rfl (by decide +kernel) (aR rfl (by decide +kernel) (cR rfl rfl ?_)))⟩;walk_at "rd";have il:is_=[]:=List.length_eq_zero_iff.mp inn.len;subst il;refine X0 (K:=g.K) (xs:=[]) [] (fun R r=>?_) rfl (by decide) (fun i x y H' hx=>by cases hx) ?_
  ·walk_at "rd"
   refine ⟨_,.inr (aq.of (sg _ _ hc)),fun l gl=>?_⟩;have sl:=Ye.aj gl (.lst []);refine ⟨l,I,[],[],[],rfl,Yb,by decide,sl _ _ hI,by decide,⟨rfl,fun i a s e=>by cases e⟩,⟨0,(fun s h=>by cases h),by simp⟩,fun D as H' sm gD hD _ nl=>?_⟩;have:as=[]:=List.length_eq_zero_iff.mp nl.len;subst this;exact r D H' (sl.trans sm) (ao.of hD)
  ·intro D H' gD sm hD
   obtain ⟨bG,fz⟩:=si.new sm;exact q _ H' _ f xs bG fz (.lst (si.jR gD hD) (by simp) .nil)
 | pk k e gg z =>
  obtain ⟨a,b',c0,c1,p0,p1,rfl,ha,hP⟩:=UK hS;obtain ⟨a',m,u,rfl,ha',h5,h6⟩:=dJ hv
  cases h5.bM.1
  refine ⟨a,rfl,_,aq.of (sg _ _ ha),_,Yk (j:=0) rfl,rr _ _ (aR rfl (by decide +kernel) (aR rfl (by decide +kernel) (aR rfl (by decide +kernel) (aR rfl (by decide +kernel) (cR rfl rfl ?_)))))⟩;walk_at "rd";have hgd:gd lo .pk (.tuple [.str (mk k),e]):=(Wn.pk k e gg z).gd;refine ⟨_,_,si.bx,Q6 _ _ (by decide +kernel) (by decide +kernel),bx,ds,ls,dl,dd,b,f,xs,lo,_,_,_,G,rfl,si,hS,hv,hgd,fun r1 H1 G1 f1 xs1 pR uP hr1=>?_⟩;obtain ⟨i0,rfl⟩:∃ i0,is_=[i0]:=List.length_eq_one_iff.mp inn.len;have hi:=inn.get 0 i0 _ rfl rfl;dsimp only at hi;rw [Yg1 gg] at hi
  obtain ⟨D0,us,rfl,hD0,_,hus⟩:=hi.bD;obtain ⟨D1,rs,rfl,hD1,_,hrs⟩:=hr1.bD;have Ab:=hus.length;have hw:=UO lo e;have hI1:=uP.go.fr _ _ nI hI;have g1:Ye G H1:=uP.gg.trans pR.sg;have hrl:=hrs.length;have hl1:(Vq lo (.tuple [.str (mk k),e])).length<=1:=by unfold Vq;split<;>simp
  refine Yer (K:=g.K) (b:=D0) (xs:=us) (fun D i y H'=>∃ c u,y = .ref c/\H1 c=none/\us[i]?=some u/\H' c=some (.tup [.str (mk k),u])) (fun D i y Ha Hb ⟨c,u,e1,e2,e3,e4⟩ s=>⟨c,u,e1,e2,e3,s _ _ e4⟩) (fun D i y Ha zs zs' ⟨c,u,e1,e2,e3,e4⟩ hD=>⟨c,u,e1,e2,e3,by rw [Yg (YI e4 hD (by intro z;cases z))];exact e4⟩) (fun R r=>?_) (ao.of (g1 _ _ hD0)) (by omega) ?_ ?_
  ·walk_at "rd"
   exact ⟨_,ao.of hI1,_,Yk (j:=0) rfl,r⟩
  ·intro D i y H2 zs hy sm hD R r
   walk_at "rd";exact ⟨_,aq.of (sm _ _ (g1 _ _ ha')),_,Yk (j:=0) rfl,few (by decide),fun X gX=>r _ _ (.aj gX _) ⟨X,y,rfl,sm.free gX,hy,Yb⟩⟩
  ·intro D2 ts H2 gD2 sm hD2 hal hat
   refine ⟨D1,rfl,D2,rfl,_,sm _ _ (pR.sg _ _ hD1),_,hD2,few (by omega),fun X gX=>?_⟩;have sX:=Ye.aj gX (.lst (rs++ts));have s2:=sm.trans sX;obtain ⟨uH,Ai⟩:=pR.new s2;refine q _ _ _ f1 xs1 uH (uP.trans Ai) (.lst (pR.jR (sm.free gX) Yb) (by rw [Ζ];omega) ?_);rw [st];refine (hrs.keep Ai.gg).append (F2.bB (F2.of (by rw [Ε];omega) fun i t d e1 e2=>?_));rw [Ν] at e2
   obtain ⟨y,hy,rfl⟩:=ο.mp e2;obtain ⟨c,u,rfl,gc,hu,hcc⟩:=hat i t e1;exact fO (pR.jR gc (sX _ _ hcc)) (Wm _ (by cases k<;>decide +kernel)) ((XQ hus hu hy).keep (uP.gg.trans Ai.gg))
 | my p es n gg =>
  obtain ⟨a,w,rfl,ha,hw⟩:=Q5 hS;obtain ⟨T,us,rfl,hT,_,hus⟩:=hv.bD;have ul:=hus.length;refine ⟨a,rfl,_,aq.of (sg _ _ ha),_,Yk (j:=0) rfl,rr _ _ (aR rfl (by decide +kernel) (aR rfl (by decide +kernel) (aR rfl (by decide +kernel) (aR rfl (by decide +kernel) (aR rfl (by decide +kernel) (aR rfl (by decide +kernel) (Yp fun R rr=>?_)))))))⟩;walk_at "rd";have inl:=inn.len;rw [Ε] at inl
  obtain ⟨as,ss,rfl,hss,f2⟩:=Kd inn;rw [dA] at f2
  rw [Ε] at inl
  have hp3:aQ p<=3:=by simp [aQ] at hm;omega
  have hB:=Af hp3;have hsl:∀ s∈ss,s.length<=340:=fun s hs=>by
   obtain ⟨i,hi⟩:=List.getElem?_of_mem hs;have hi':=(Ι.mp hi).1;have fl:=f2.len;rw [Ε] at fl
   have hx:es[i]?=some (es[i]'(by omega)):=Χ _;have:=(f2.get i s _ hi (by rw [Ν,hx];rfl)).length;rw [this];exact ah (UP (gg _ (Τ hx))) hB
  have hlen:∀ (as1 as2:List Addr),as1.length=(wo us).length->as2.length=(KW.wi us ss).length->as1.length+as2.length<=1400:=fun as1 as2 h5 h4=>by
   have h3:=Q7 (us:=us) hsl ss.length (Μ _);rw [UN] at h5
   have h6:=hss.1;unfold KW.wi at h4;omega
  refine ⟨_,rfl,.inr ⟨T,us,rfl,sg _ _ hT,by omega,fun D1 as1 H1 s1 gD1 hD1 eX=>⟨T,I,us,as,ss,rfl,s1 _ _ (sg _ _ hT),by omega,s1 _ _ hI,by omega,⟨hss.1,fun i c z e1 e2=>s1 _ _ (sg _ _ (hss.2 i c z e1 e2))⟩,⟨340,hsl,by omega⟩,fun D2 as2 H2 s2 gD2 hD2 _ dM=>⟨D1,rfl,D2,rfl,_,s2 _ _ hD1,_,hD2,few ?_,fun p' gp=>rr _ _ ?_⟩⟩⟩⟩
  ·have:=hlen as1 as2 eX.len dM.len
   rw [Ε,Ε];omega
  have Kh:=hlen as1 as2 eX.len dM.len;walk_at "rd";have Aj:=Ye.aj gp (.lst (as1.map V.ref++as2.map V.ref));have s3:=(s1.trans s2).trans Aj;refine Tq (K:=g.K) (xs:=as1.map V.ref++as2.map V.ref) (fun _=>true) (fun v=>v) (fun R r=>by walk_at "rd";exact r p' _ (.refl _) (ao.of Yb)) (by rw [Ζ,Ε,Ε];omega) ?_ ?_ ?_
  ·intro x H' hx sm R r
   walk_at "rd";exact r H' (.refl _)
  ·intro x H' hx _ sm R r
   walk_at "rd";exact r H' (.refl _)
  ·intro D H' gD sm hD
   have s4:=s3.trans sm;have gD':H D=none:=s3.free gD;rw [List.filter_eq_self.mpr (fun _ _=>rfl),List.map_id'] at hD
   obtain ⟨bG,fz⟩:=si.new s4;refine q _ H' _ f xs bG fz (.lst (si.jR gD' hD) (by rw [Ζ,Ε,Ε];omega) ?_);have hu:=(Ae hus).imp fun _ _ h=>h.keep fz.gg
   have hs':=f2.imp fun _ _ h=>(Ae h).imp fun _ _ h=>h.keep fz.gg
   have hl:∀ (z:List (List V)) (e:∀ y∈z,y.length<=100),∀ y∈z,y.length<=100:=fun _ e=>e
   have nw:∀ x o,H x=none->H' x=some o->(∀ ys,o = .lst ys->ys.length<=100)->fU dd f G H H' x=some o:=fun x o e1 e2 _=>si.jR e1 e2
   have k1:Nl H H' as1 (wo us):=⟨eX.len,eX.nw,eX.nd,fun i c z e1 e2=>sm _ _ (Aj _ _ (s2 _ _ (eX.at_ i c z e1 e2)))⟩;have k2:Nl H H' as2 (KW.wi us ss):=⟨dM.len,fun a ha=>s1.free (dM.nw a ha),dM.nd,fun i c z e1 e2=>sm _ _ (Aj _ _ (dM.at_ i c z e1 e2))⟩;rw [st,ξ];refine (Ke k1 nw (fun z hz=>?_) (hu.wo.imp fun _ _ h=>h.bB)).append (Ke k2 nw (fun z hz=>?_) ((hu.wi hs').imp fun _ _ h=>h.bB))
   ·have:=(Ag hz).1;omega
   ·obtain ⟨m,hm,h⟩:=List.mem_flatten.mp hz
    obtain ⟨i,hi,rfl⟩:=aw.mp hm;obtain ⟨s,hs,rfl⟩:=aw.mp h;rw [Ζ,Ζ,ι,a8,δ];omega
inductive ju (P:Ο) (w:ε) (K:Κ) (C:Cs) (CL CS:Addr) (m:Nat) (vs:List V) (H:Hp) (Q:VK) (E_:XK):Prop
 | mk (bx ds ls dl dd:Addr) (b:V) (f:Option (Addr×List Addr)) (xs:Dx) (lo:Int) (x v:V) (s:Sh) (d:Β) (G:Hp) (h0:vs=[.ref bx,x,v]) (h1:SI P w K C CL CS G H bx ds ls dl dd b f xs) (h2:DV G x (bR lo s)) (h3:DV G v d) (h4:gd lo s d) (h5:aQ s<=m) (h6:aQ s<=3) (h7:∀ r H' G' f' xs',SI P w K C CL CS G' H' bx ds ls dl dd b f' xs'->Fz dd G H f G' H' f'->DV G' r (.list (st lo s d))->Q r H')
theorem Ep {P:Ο} {w:ε} {K:Κ} {C:Cs} {CL CS:Addr} {vs:List V} {H:Hp} {Q:VK} {E:XK} (h:ju P w K C CL CS 0 vs H Q E):False:=by
 obtain ⟨bx,ds,ls,dl,dd,b,f,xs,lo,x,v,s,d,G,_,_,_,_,_,h,_⟩:=h
 cases s<;>simp [aQ] at h
inductive SfV (P:Ο) (w:ε) (K:Κ) (C:Cs) (CL CS:Addr) (G H:Hp) (bx ds ls dl dd:Addr) (b:V) (f:Option (Addr×List Addr)) (lo:Int) (x v:V) (I l:Addr) (ts:List Addr) (L:List (Sh×Β)) (i:Nat) (σ:St) (H':Hp):Prop
 | mk (o4 o5:Option V) (is_:List V) (G':Hp) (f':Option (Addr×List Addr)) (xs':Dx) (e:σ=[some (.ref bx),some x,some v,some (.ref I),o4,o5]) (si:SI P w K C CL CS G' H' bx ds ls dl dd b f' xs') (fz:Fz dd G H f G' H' f') (hI:H' I=some (.lst is_)) (gI:G' I=none) (nI:¬ mu dd f' I) (inn:F2 (fun v w=>DV G' v (.list (st lo w.1 w.2))) is_ (L.take i)) (hl:H' l=some (.lst (ts.map V.ref))) (nl:¬ mu dd f' l) (pr:iR lo G H' ts L)
theorem ZD {k:Nat} {Z4 Z0 Z1 Z2:Addr} (R:g.bC Z2 "steps_from" "Stepper.steps_from" ZQ ["self","shape","value"]) (zL:g.Fn k "things_within" ["book","shape","value"] (zJ g.K)) (ZS:g.Me k Z2 "steps_from" ["self","shape","value"] (ju g.P g.w g.K (Cs.mk Z0 Z1) Z4 Z2 m)) (Z2Z:g.Me k Z2 "steps_by" ["self","shape","value","inner"] (pQ g.P g.w g.K (Cs.mk Z0 Z1) Z4 Z2)) (Zc:Cls g.K Z2) (Zb:Yt g.K Z2 "book") (Z8:Yt g.K Z2 "lister"):g.Me (k+1) Z2 "steps_from" ["self","shape","value"] (ju g.P g.w g.K (Cs.mk Z0 Z1) Z4 Z2 (m+1)):=by
 refine R.me ZB (fun vs H Q E h=>by obtain ⟨bx,ds,ls,dl,dd,b,f,xs,lo,x,v,s,d,G,rfl,si,hS,hv,hg,hm,h3,q⟩:=h;rfl) fun f_ cdv A outer s H vs Q E hr h=>?_
 obtain ⟨bx,ds,ls,dl,dd,b,f,xs,lo,x,v,s,d,G,rfl,si,hS,hv,hg,hm,h3,q⟩:=h;refine ⟨_,(@Yd _ _ _ _ _ (@Yr _ _ (3) _ _ _ _ ZB.nd rfl (.inl rfl) (@YU _ _ _ _ Yc) (by rfl) (by first | exact .inl rfl | exact .inr rfl | assumption)) (@Yd _ _ _ _ _ (@Xo _ _ _ _ _ _ _ _ ae rfl (@YW _ _ _ _ (@Ys _ _ _ _ _ _ _ _ _ _ _ _ zL hr (@Ya _ _ _ _ _ (@Xl _ _ _ _ _ (pv 0) rfl) (@Ya _ _ _ _ _ (pv 1) (@Ya _ _ _ _ _ (pv 2) Yc (by rfl)) (by rfl)) (by rfl)) (by omega) (by rfl) (by rfl) (by decide) (by rfl) (by rfl))) (@WH _ _ _ _ _ (2) rfl (@Y7 _ _ _ _ _ (@Yu _ _ (4) _ ZB.nd rfl (.inl rfl) (by first | exact .inl rfl | exact .inr rfl | assumption)) (@Y7 _ _ _ _ _ (@Yu _ _ (5) _ ZB.nd rfl (.inl rfl) (by first | exact .inl rfl | exact .inr rfl | assumption)) Wf (by rfl)) (by rfl)) (by rfl) (by rfl)) (@Yf _ _ _ (@Y0 _ _ _ _ (@Xw _ _ _ _ _ _ _ _ _ _ _ _ bb bc bj Y6 (pv 3) (@Ya _ _ _ _ _ (@Wb _ _ _ _ _ _ _ _ _ _ _ _ _ _ _ _ ZS Zc hr (pv 0) (@Ya _ _ _ _ _ (pv 4) (@Ya _ _ _ _ _ (pv 5) Yc (by rfl)) (by rfl)) (by omega) (by rfl) (by rfl) (by rfl) (by rfl)) Yc (by rfl)) (by rfl) (by rfl) (by rfl) (by rfl) (by rfl)) (by rfl))) (by intro _;rfl)) (@Yf _ _ _ (@Yl _ _ _ _ (@Wb _ _ _ _ _ _ _ _ _ _ _ _ _ _ _ _ Z2Z Zc hr (pv 0) (@Ya _ _ _ _ _ (pv 1) (@Ya _ _ _ _ _ (pv 2) (@Ya _ _ _ _ _ (pv 3) Yc (by rfl)) (by rfl)) (by rfl)) (by omega) (by rfl) (by rfl) (by rfl) (by rfl)))))),?_⟩;obtain ⟨L,hw⟩:=Jp hg;have hL:=hw.len;have hsb:=hw.sub;refine Yp fun R rr=>?_
 walk_at "rd";refine ⟨few (by decide),fun I gI=>rr _ _ (Yp fun R rr=>?_)⟩;have sI:=Ye.aj gI (.lst []);refine UL (fun l xs H2=>∃ (ts:List Addr),xs=ts.map V.ref/\Ye (upd H I (.lst [])) H2/\H2 l=some (.lst (ts.map V.ref))/\upd H I (.lst []) l=none/\iR lo G H2 ts L) (fun R r=>?_) ?_
 ·walk_at "rd"
  exact ⟨_,_,_,sI _ _ si.bx,Zc,Zb,_,JL _ _,b,lo,x,v,s,d,L,G,rfl,si.sg.trans sI,hS,hv,hw,fun D ts H' s' gD hD pr=>r D _ H' (ao.of hD) ⟨ts,rfl,s',hD,gD,pr⟩⟩
 ·rintro l xs0 H2 hS2 ⟨ts,rfl,s2,hl,gl,pr⟩
  have qX:=pr.1;have hlI:l≠I:=fun e=>by rw [e,Yb] at gl;cases gl
  have s3:=sI.trans s2;refine ⟨SfV g.P g.w g.K (Cs.mk Z0 Z1) Z4 Z2 G H bx ds ls dl dd b f lo x v I l ts L,⟨none,none,[],G,f,xs,rfl,si.same s3,Qj s3,s2 _ _ Yb,si.sg.free gI,si.li.new gI,.nil,hl,si.li.new (sI.free gl),pr⟩,fun i σ H' _ ⟨_,_,_,_,_,_,_,_,_,_,_,_,_,hl',_,_⟩=>ao.of hl',?_,?_⟩
  ·rintro i y σ H' hx ⟨o4,o5,is_,G',f',xs',rfl,bG,fz,hI,Kl,nI,inn,hl',nl,Ak⟩
   rw [Ν] at hx
   obtain ⟨t,ht,rfl⟩:=ο.mp hx;have hi:=(Ι.mp ht).1;have hwi:L[i]?=some (L[i]'(by omega)):=Χ _;generalize L[i]'(by omega)=w at hwi;have zM:=Τ hwi;obtain ⟨c,u,e1,e2,e3⟩:=Ak.2 i t w ht hwi;obtain ⟨g1,l1⟩:=hsb w zM;have il:=inn.len;rw [ι] at il
   refine ⟨t,_,rfl,aq.of e1,rfl,_,_,rfl,_,_,rfl,rfl,?_⟩;walk_at "rd";refine ⟨.inl ⟨rfl,_,ao.of hI⟩,_,_,bG.bx,Q6 _ _ (by decide +kernel) (by decide +kernel),bx,ds,ls,dl,dd,b,f',xs',lo,c,u,w.1,w.2,G',rfl,bG,e2.keep fz.gg,e3.keep fz.gg,g1,by omega,by omega,fun r H5 G5 f5 xs5 z7 iT hr=>?_⟩;have Al:=iT.go.fr _ _ nI hI;have Km:¬ mu dd f5 I:=fun z=>(iT.go.nw I z).elim nI (by rw [hI];simp)
   have Ko:G5 I=none:=by
    cases e:G5 I with
    | none=>rfl
    | some o=>exact ((iT.gn I (by rw [e];simp)).elim (fun z=>z Kl) (by rw [hI];simp)).elim
   have nl5:¬ mu dd f5 l:=fun z=>(iT.go.nw l z).elim nl (by rw [hl'];simp)
   have pU:=fz.trans iT;have z9:Tp H' (upd H5 I (.lst (is_++[r]))):=(bG.li.tp iT.go).trans (zH Al);obtain ⟨D,us,rfl,_,_,_⟩:=hr.bD;refine ⟨_,Al,few (by omega),_,_,is_++[.ref D],G5,f5,xs5,rfl,?_,⟨⟨fun y o m e=>?_,fun y e=>pU.go.al y (Xy e),pU.go.nw⟩,pU.gg,pU.gn⟩,Yb,Ko,Km,?_,by rw [Yg hlI];exact iT.go.fr _ _ nl hl',nl5,Ak.tp z9⟩
   ·refine z7.own fun y o hl e=>?_
    rw [Yg fun z=>?_]
    ·exact e
    ·rw [z,Al] at e
     rcases hl _ (Λ e).symm with g | m
     ·rw [z] at g;exact g Ko
     ·rw [z] at m;exact Km m
   ·rw [Yg (Yj e gI)];exact pU.go.fr y o m e
   ·rw [Xb hwi]
    exact F2.app (inn.imp fun _ _ h=>h.keep iT.gg) (.cons hr .nil)
  ·rintro σ H' ⟨o4,o5,is_,G',f',xs',rfl,bG,fz,hI,Kl,nI,inn,hl',nl,Ak⟩
   refine rr _ _ ?_;rw [Ε,qX,c9] at inn
   walk_at "rd";exact ⟨_,_,bG.bx,Q6 _ _ (by decide +kernel) (by decide +kernel),bx,ds,ls,dl,dd,b,f',xs',lo,x,v,s,d,L,I,is_,G',rfl,bG,hS.keep fz.gg,hv.keep fz.gg,hw,h3,hI,nI,inn,fun r H3 G3 f3 Kp uQ fz3 hr=>q r H3 G3 f3 Kp uQ (fz.trans fz3) hr⟩
theorem Am {H:Hp} {v:V} (h:DV H v .none):v = .non:=by obtain ⟨L,h⟩:=h;cases h;rfl
inductive Zs (m:Nat) (vs:List V) (H:Hp) (Q:VK) (E_:XK):Prop
 | mk (v:_) (d:_) (h0:vs=[v]) (h1:DV H v d) (h2:d.depth<m) (h3:∀ v' H' L',Ye H H'->bQ H H' v' d L'->Q v' H')
theorem Qz {vs:List V} {H:Hp} {Q:VK} {E:XK} (h:Zs 0 vs H Q E):False:=by
 obtain ⟨v,d,_,_,h,_⟩:=h;omega
theorem mG {k:Nat}  (R:g.Raw "copied" "copied" Um ["thing"]) (Zx:g.Fn k "copied" ["thing"] (Zs m)) (cB:g.mg "dict"=none) (Z3:g.mg "isinstance"=none) (aH:g.mg "list"=none) (Z5:g.mg "tuple"=none):g.Fn (k+1) "copied" ["thing"] (Zs (m+1)):=by
 refine R.fn YdG (fun vs H Q E h=>by obtain ⟨v,d,rfl,hv,hdp,q⟩:=h;rfl) fun f_ cdv A outer s H vs Q E hr h=>?_
 obtain ⟨v,d,rfl,hv,hdp,q⟩:=h;refine ⟨_,(@Yd _ _ _ _ _ (@Yx _ _ _ _ _ _ _ _ (@YY _ _ _ (@YG _ _ _ _ _ _ _ _ _ _ Z3 YH (@Ya _ _ _ _ _ (pv 0) (@Ya _ _ _ _ _ (@Xk _ _ _ _ ("list") aH (by decide +kernel) (by rfl) (by rfl) (by decide) (by decide)) Yc (by rfl)) (by rfl)) (by decide +kernel) (by rfl) (by rfl) (by decide) (by decide) (by rfl) (by rfl)) (by intro _;rfl)) (@Yf _ _ _ (@Yl _ _ _ _ (@Xj _ _ _ _ _ _ _ ([none]) ((["each"]:List Str)) _ (YE 0) _ _ (.own .nil) rfl (@YW _ _ _ _ (pv 0)) (fun cl C s₀ H₀ fp pn=>(@Yu _ _ (0) _ (show aI (["each"]:List Str) by decide +kernel) rfl (.inl rfl) (.inr rfl))) (fun cl C s₀ H₀ fp pn=>YV) (fun cl C s₀ H₀ fp pn=>(@Ys _ _ _ _ _ _ _ _ _ _ _ _ Zx hr (@Ya _ _ _ _ _ (pv 0) Yc (by rfl)) (by omega) (by rfl) (by rfl) (by decide) (by rfl) (by rfl))) (by intro x hx;simp at hx) (by rfl) (by decide) (by decide +kernel) (by intro _;rfl)))) Ym) (@Yd _ _ _ _ _ (@Yx _ _ _ _ _ _ _ _ (@YY _ _ _ (@YG _ _ _ _ _ _ _ _ _ _ Z3 YH (@Ya _ _ _ _ _ (pv 0) (@Ya _ _ _ _ _ (@Xk _ _ _ _ ("tuple") Z5 (by decide +kernel) (by rfl) (by rfl) (by decide) (by decide)) Yc (by rfl)) (by rfl)) (by decide +kernel) (by rfl) (by rfl) (by decide) (by decide) (by rfl) (by rfl)) (by intro _;rfl)) (@Yf _ _ _ (@Yl _ _ _ _ (@Wp _ _ _ _ _ _ _ _ _ _ Z5 Xn (@Ya _ _ _ _ _ (@Xj _ _ _ _ _ _ _ ([none]) ((["each"]:List Str)) _ (YE 0) _ _ (.own .nil) rfl (@Uq _ _ _ _ (pv 0)) (fun cl C s₀ H₀ fp pn=>(@Yu _ _ (0) _ (show aI (["each"]:List Str) by decide +kernel) rfl (.inl rfl) (.inr rfl))) (fun cl C s₀ H₀ fp pn=>YV) (fun cl C s₀ H₀ fp pn=>(@Ys _ _ _ _ _ _ _ _ _ _ _ _ Zx hr (@Ya _ _ _ _ _ (pv 0) Yc (by rfl)) (by omega) (by rfl) (by rfl) (by decide) (by rfl) (by rfl))) (by intro x hx;simp at hx) (by rfl) (by decide) (by decide +kernel) (by intro _;rfl)) Yc (by rfl)) (by decide +kernel) (by rfl) (by rfl) (by decide) (by decide) (by rfl) (by rfl)))) Ym) (@Yd _ _ _ _ _ (@Yx _ _ _ _ _ _ _ _ (@YY _ _ _ (@YG _ _ _ _ _ _ _ _ _ _ Z3 YH (@Ya _ _ _ _ _ (pv 0) (@Ya _ _ _ _ _ (@Xk _ _ _ _ ("dict") cB (by decide +kernel) (by rfl) (by rfl) (by decide) (by decide)) Yc (by rfl)) (by rfl)) (by decide +kernel) (by rfl) (by rfl) (by decide) (by decide) (by rfl) (by rfl)) (by intro _;rfl)) (@Yf _ _ _ Yy) Ym) (@Yf _ _ _ (@Yl _ _ _ _ (pv 0)))))),?_⟩;have ty:=hv.ty (K:=g.K);walk_at "rd"
 cases d with
 | list ds =>
  obtain ⟨a,vs,rfl,h,hl,hds⟩:=hv.bD;have e1:=hds.length;refine ⟨_,rfl,_,ty,true,rfl,XY ?_⟩;refine Iv (K:=g.K) (b:=a) (xs:=vs) ds (fun R r=>by walk_at "rd";exact r) (ao.of h) (by omega) hl ?_ (fun D H' L sm ho=>q _ _ _ sm ho);intro i x e H' hx he sm R r;obtain ⟨e',he',jT⟩:=hds.at hx;rw [he] at he'
  cases he'
  have uR:=Xu (Τ he);walk_at "rd";exact ⟨x,e,rfl,jT.keep sm,by rw [aE] at hdp;omega,fun v' aF gQ s' ho=>r v' aF gQ s' ho⟩
 | tuple ds =>
  obtain ⟨a,vs,rfl,h,hl,hds⟩:=hv.jJ;have e1:=hds.length;refine ⟨_,rfl,_,ty,false,rfl,YQ ⟨_,rfl,_,ty,true,rfl,XY ?_⟩⟩;refine Iw (K:=g.K) (b:=a) (xs:=vs) ds (fun R r=>by walk_at "rd";exact r) (aq.of h) (by omega) hl ?_ ?_
  ·intro i x e H' hx he sm R r
   obtain ⟨e',he',jT⟩:=hds.at hx;rw [he] at he'
   cases he'
   have uR:=Xu (Τ he);walk_at "rd";exact ⟨x,e,rfl,jT.keep sm,by rw [aE] at hdp;omega,fun v' aF gQ s' ho=>r v' aF gQ s' ho⟩
  ·intro D H' L sm ho
   obtain ⟨ys,L1,_,h1,h2,h3,_,_⟩:=ho.inv;exact ⟨_,rfl,_,.inl ⟨ao.of h1,fun p hp=>q _ _ _ (sm.trans (.aj hp _)) (IK h3 h2 hp)⟩⟩
 | dict xs=>obtain ⟨L,h⟩:=hv;cases h
 | int i=>cases hv.d8;exact ⟨_,rfl,_,ty,false,rfl,YQ ⟨_,rfl,_,ty,false,rfl,YQ ⟨_,rfl,_,ty,false,rfl,YQ (q _ _ _ (.refl _) (XL (.int _)))⟩⟩⟩
 | bool i=>cases hv.IV;exact ⟨_,rfl,_,ty,false,rfl,YQ ⟨_,rfl,_,ty,false,rfl,YQ ⟨_,rfl,_,ty,false,rfl,YQ (q _ _ _ (.refl _) (XL (.bl _)))⟩⟩⟩
 | str x=>obtain ⟨rfl,o⟩:=hv.bM;exact ⟨_,rfl,_,ty,false,rfl,YQ ⟨_,rfl,_,ty,false,rfl,YQ ⟨_,rfl,_,ty,false,rfl,YQ (q _ _ _ (.refl _) (XL (.str _ o)))⟩⟩⟩
 | none=>cases Am hv;exact ⟨_,rfl,_,ty,false,rfl,YQ ⟨_,rfl,_,ty,false,rfl,YQ ⟨_,rfl,_,ty,false,rfl,YQ (q _ _ _ (.refl _) (XL .non))⟩⟩⟩
theorem YeU {vs:List V} {H:Hp} {Q:VK} {E:XK} (h:Zs 0 vs H Q E):False:=Qz h
theorem ZU {k:Nat}  (R:g.Raw "_law_copy" "_law_copy" yP ["_law_value"]) (mH:g.Fn k "_law_copy" ["_law_value"] (Zs m)) (Z3:g.mg "isinstance"=none) (aH:g.mg "list"=none) (Z5:g.mg "tuple"=none):g.Fn (k+1) "_law_copy" ["_law_value"] (Zs (m+1)):=by
 refine R.fn Ya0 (fun vs H Q E h=>by obtain ⟨v,d,rfl,hv,hdp,q⟩:=h;rfl) fun f_ cdv A outer s H vs Q E hr h=>?_
 obtain ⟨v,d,rfl,hv,hdp,q⟩:=h;refine ⟨_,(@Yd _ _ _ _ _ (@Yx _ _ _ _ _ _ _ _ (@YY _ _ _ (@YG _ _ _ _ _ _ _ _ _ _ Z3 YH (@Ya _ _ _ _ _ (pv 0) (@Ya _ _ _ _ _ (@Xk _ _ _ _ ("list") aH (by decide +kernel) (by rfl) (by rfl) (by decide) (by decide)) Yc (by rfl)) (by rfl)) (by decide +kernel) (by rfl) (by rfl) (by decide) (by decide) (by rfl) (by rfl)) (by intro _;rfl)) (@Yf _ _ _ (@Yl _ _ _ _ (@Xj _ _ _ _ _ _ _ ([none]) ((["_law_thing_here"]:List Str)) _ (YE 0) _ _ (.own .nil) rfl (@YW _ _ _ _ (pv 0)) (fun cl C s₀ H₀ fp pn=>(@Yu _ _ (0) _ (show aI (["_law_thing_here"]:List Str) by decide +kernel) rfl (.inl rfl) (.inr rfl))) (fun cl C s₀ H₀ fp pn=>YV) (fun cl C s₀ H₀ fp pn=>(@Ys _ _ _ _ _ _ _ _ _ _ _ _ mH hr (@Ya _ _ _ _ _ (pv 0) Yc (by rfl)) (by omega) (by rfl) (by rfl) (by decide) (by rfl) (by rfl))) (by intro x hx;simp at hx) (by rfl) (by decide) (by decide +kernel) (by intro _;rfl)))) Ym) (@Yd _ _ _ _ _ (@Yx _ _ _ _ _ _ _ _ (@YY _ _ _ (@YG _ _ _ _ _ _ _ _ _ _ Z3 YH (@Ya _ _ _ _ _ (pv 0) (@Ya _ _ _ _ _ (@Xk _ _ _ _ ("tuple") Z5 (by decide +kernel) (by rfl) (by rfl) (by decide) (by decide)) Yc (by rfl)) (by rfl)) (by decide +kernel) (by rfl) (by rfl) (by decide) (by decide) (by rfl) (by rfl)) (by intro _;rfl)) (@Yf _ _ _ (@Yl _ _ _ _ (@Wp _ _ _ _ _ _ _ _ _ _ Z5 Xn (@Ya _ _ _ _ _ (@Xj _ _ _ _ _ _ _ ([none]) ((["_law_thing_here"]:List Str)) _ (YE 0) _ _ (.own .nil) rfl (@Uq _ _ _ _ (pv 0)) (fun cl C s₀ H₀ fp pn=>(@Yu _ _ (0) _ (show aI (["_law_thing_here"]:List Str) by decide +kernel) rfl (.inl rfl) (.inr rfl))) (fun cl C s₀ H₀ fp pn=>YV) (fun cl C s₀ H₀ fp pn=>(@Ys _ _ _ _ _ _ _ _ _ _ _ _ mH hr (@Ya _ _ _ _ _ (pv 0) Yc (by rfl)) (by omega) (by rfl) (by rfl) (by decide) (by rfl) (by rfl))) (by intro x hx;simp at hx) (by rfl) (by decide) (by decide +kernel) (by intro _;rfl)) Yc (by rfl)) (by decide +kernel) (by rfl) (by rfl) (by decide) (by decide) (by rfl) (by rfl)))) Ym) (@Yf _ _ _ (@Yl _ _ _ _ (pv 0))))),?_⟩;have ty:=hv.ty (K:=g.K);walk_at "rd"
 cases d with
 | list ds =>
  obtain ⟨a,vs,rfl,h,hl,hds⟩:=hv.bD;have e1:=hds.length;refine ⟨_,rfl,_,ty,true,rfl,XY ?_⟩;refine Iv (K:=g.K) (b:=a) (xs:=vs) ds (fun R r=>by walk_at "rd";exact r) (ao.of h) (by omega) hl ?_ (fun D H' L sm ho=>q _ _ _ sm ho);intro i x e H' hx he sm R r;obtain ⟨e',he',jT⟩:=hds.at hx;rw [he] at he'
  cases he'
  have uR:=Xu (Τ he);walk_at "rd";exact ⟨x,e,rfl,jT.keep sm,by rw [aE] at hdp;omega,fun v' aF gQ s' ho=>r v' aF gQ s' ho⟩
 | tuple ds =>
  obtain ⟨a,vs,rfl,h,hl,hds⟩:=hv.jJ;have e1:=hds.length;refine ⟨_,rfl,_,ty,false,rfl,YQ ⟨_,rfl,_,ty,true,rfl,XY ?_⟩⟩;refine Iw (K:=g.K) (b:=a) (xs:=vs) ds (fun R r=>by walk_at "rd";exact r) (aq.of h) (by omega) hl ?_ ?_
  ·intro i x e H' hx he sm R r
   obtain ⟨e',he',jT⟩:=hds.at hx;rw [he] at he'
   cases he'
   have uR:=Xu (Τ he);walk_at "rd";exact ⟨x,e,rfl,jT.keep sm,by rw [aE] at hdp;omega,fun v' aF gQ s' ho=>r v' aF gQ s' ho⟩
  ·intro D H' L sm ho
   obtain ⟨ys,L1,_,h1,h2,h3,_,_⟩:=ho.inv;exact ⟨_,rfl,_,.inl ⟨ao.of h1,fun p hp=>q _ _ _ (sm.trans (.aj hp _)) (IK h3 h2 hp)⟩⟩
 | dict xs=>obtain ⟨L,h⟩:=hv;cases h
 | int i=>cases hv.d8;exact ⟨_,rfl,_,ty,false,rfl,YQ ⟨_,rfl,_,ty,false,rfl,YQ (q _ _ _ (.refl _) (XL (.int _)))⟩⟩
 | bool i=>cases hv.IV;exact ⟨_,rfl,_,ty,false,rfl,YQ ⟨_,rfl,_,ty,false,rfl,YQ (q _ _ _ (.refl _) (XL (.bl _)))⟩⟩
 | str x=>obtain ⟨rfl,o⟩:=hv.bM;exact ⟨_,rfl,_,ty,false,rfl,YQ ⟨_,rfl,_,ty,false,rfl,YQ (q _ _ _ (.refl _) (XL (.str _ o)))⟩⟩
 | none=>cases Am hv;exact ⟨_,rfl,_,ty,false,rfl,YQ ⟨_,rfl,_,ty,false,rfl,YQ (q _ _ _ (.refl _) (XL .non))⟩⟩
theorem Vr {lo:Int}:∀ {s:Sh} {d:Β},gd lo s d->d.depth<=aQ s
 | .wh,_,⟨o,_,e⟩=>by subst e;simp [aE,aQ]
 | .tx,_,⟨l,_,_,e⟩=>by subst e;simp [aE,aQ]
 | .rw,d,g=>by cases (show d=_ from g);simp [aE,χ,aQ]
 | .pk,d,g=>by rcases g with rfl | ⟨o,_,rfl⟩<;>simp [aE,χ,aQ]
 | .my p,_,⟨ds,_,g,e⟩=>by
  subst e;rw [aE];have:=XV (n:=aQ p) (ds:=ds) fun e he=>Vr (g e he)
  simp only [aQ];omega
theorem YeV {lo:Int} {s:Sh} {d:Β} (g:gd lo s d):(c4 (st lo s d)).depth<=aQ s+1:=by
 rw [aE];have:=XV (n:=aQ s) (ds:=st lo s d) fun e he=>Vr (Ah g he).1
 omega
inductive gR (K:Κ) (vs:List V) (H:Hp) (Q:VK) (E_:XK):Prop
 | mk (b:V) (lo:Int) (x v:V) (s:Sh) (d:Β) (h0:vs=[b,x,v]) (h1:DV H x (bR lo s)) (h2:DV H v d) (h3:gd lo s d) (h4:aQ s<=3) (h5:∀ v' H' L',Ye H H'->bQ H H' v' (.list (st lo s d)) L'->Q v' H')
theorem Ya7 {k:Nat} {Z4 Z0 Z1 Z2:Addr} (R:g.Raw "steps_of" "steps_of" yG ["book","shape","value"]) (Zx:g.Fn k "copied" ["thing"] (Zs 6)) (Ao:g.Fn k "refuse_no_value" ["book","shape","value"] (jN g.K)) {cU:Nat} (Z30:g.Ma cU "Stepper" Z2 ["self","book"] (JN g.P g.w g.K (Cs.mk Z0 Z1) Z4 Z2)) (pW:cU+1<=k) (ZS:g.Me k Z2 "steps_from" ["self","shape","value"] (ju g.P g.w g.K (Cs.mk Z0 Z1) Z4 Z2 4)) (Zc:Cls g.K Z2) (Zb:Yt g.K Z2 "book") (Z8:Yt g.K Z2 "lister"):g.Fn (k+1) "steps_of" ["book","shape","value"] (gR g.K):=by
 refine R.fn YaZ (fun vs H Q E h=>by obtain ⟨b,lo,x,v,s,d,rfl,hS,hv,hg,hm,q⟩:=h;rfl) fun f_ cdv A outer s H vs Q E hr h=>?_
 obtain ⟨b,lo,x,v,s,d,rfl,hS,hv,hg,hm,q⟩:=h;refine ⟨_,(@Yd _ _ _ _ _ (@Y0 _ _ _ _ (@Ys _ _ _ _ _ _ _ _ _ _ _ _ Ao hr (@Ya _ _ _ _ _ (pv 0) (@Ya _ _ _ _ _ (pv 1) (@Ya _ _ _ _ _ (pv 2) Yc (by rfl)) (by rfl)) (by rfl)) (by omega) (by rfl) (by rfl) (by decide) (by rfl) (by rfl)) (by rfl)) (@Yf _ _ _ (@Yl _ _ _ _ (@Ys _ _ _ _ _ _ _ _ _ _ _ _ Zx hr (@Ya _ _ _ _ _ (@Wb _ _ _ _ _ _ _ _ _ _ _ _ _ _ _ _ ZS Zc hr (@QW _ _ _ _ _ _ _ _ _ _ _ _ _ Z30 hr (@Ya _ _ _ _ _ (pv 0) Yc (by rfl)) (by omega) (by rfl) (by rfl) (by decide) (by rfl) (by rfl)) (@Ya _ _ _ _ _ (pv 1) (@Ya _ _ _ _ _ (pv 2) Yc (by rfl)) (by rfl)) (by omega) (by rfl) (by rfl) (by rfl) (by rfl)) Yc (by rfl)) (by omega) (by rfl) (by rfl) (by decide) (by rfl) (by rfl))))),?_⟩;refine Yp fun R rr=>?_
 walk_at "rd";refine ⟨lo,s,d,⟨b,x,v,H,.refl _,hS,hv,hg,by omega⟩,fun H1 s1=>rr _ _ ?_⟩;walk_at "rd";intro bx ds g1 g2 hne;have s2:=VN (H':=upd (upd H1 ds (.own bx)) bx (.ins Z2 ds [])) g1 g2 (fun _ _ _ e=>e);refine ⟨bx,ds,b,H,rfl,Yb,s1.trans s2,s1.free g1,fun ls dl dd H2 si gd=>?_⟩;refine ⟨rfl,_,_,si.bx,Q6 _ _ (by decide +kernel) (by decide +kernel),bx,ds,ls,dl,dd,b,none,[],lo,x,v,s,d,H,rfl,si,hS,hv,hg,by omega,hm,fun r H3 G3 f3 Kp uQ fz hr=>?_⟩;have s3:Ye H H3:=fz.gg.trans uQ.sg;have hd:=YeV hg;obtain ⟨D,us,rfl,_,_,_⟩:=id hr.bD;exact ⟨.ref D,_,rfl,hr.keep uQ.sg,by omega,fun v' H4 L4 s4 ow=>q v' H4 L4 (s3.trans s4) ⟨ow.vl,ow.nd,fun a ha=>s3.free (ow.new a ha)⟩⟩
inductive pX (vs:List V) (H:Hp) (Q:VK) (E_:XK):Prop
 | mk (i:Int) (h0:vs=[.int i]) (h1:Q (.bl false) H)
theorem Ya8  (R:g.Raw "is_truth" "is_truth" yq ["thing"]) (cT:g.mg "bool"=none) (Z3:g.mg "isinstance"=none):g.Fn (1) "is_truth" ["thing"] (pX):=by
 refine R.fn YaY (fun vs H Q E h=>by obtain ⟨i,rfl,q⟩:=h;rfl) fun f_ cdv A outer s H vs Q E hr h=>?_
 obtain ⟨i,rfl,q⟩:=h;refine ⟨_,(@Yf _ _ _ (@Yl _ _ _ _ (@YG _ _ _ _ _ _ _ _ _ _ Z3 YH (@Ya _ _ _ _ _ (pv 0) (@Ya _ _ _ _ _ (@Xk _ _ _ _ ("bool") cT (by decide +kernel) (by rfl) (by rfl) (by decide) (by decide)) Yc (by rfl)) (by rfl)) (by decide +kernel) (by rfl) (by rfl) (by decide) (by decide) (by rfl) (by rfl)))),?_⟩;walk_at "rd";exact ⟨_,rfl,_,.int i,false,rfl,q⟩
inductive mJ (vs:List V) (H:Hp) (Q:VK) (E_:XK):Prop
 | mk (i j:Int) (h0:vs=[.int i,.int j]) (h1:Q (.bl (decide (i=j))) H)
theorem Ygp {k:Nat}  (R:g.Raw "same" "same" yp ["one","other"]) (ZL:g.Fn k "is_whole_number" ["thing"] (jL)) (m9:g.Fn k "is_truth" ["thing"] (pX)):g.Fn (k+1) "same" ["one","other"] (mJ):=by
 refine R.fn Ygi (fun vs H Q E h=>by obtain ⟨i,j,rfl,q⟩:=h;rfl) fun f_ cdv A outer s H vs Q E hr h=>?_
 obtain ⟨i,j,rfl,q⟩:=h;refine ⟨_,(@Yd _ _ _ _ _ (@Yx _ _ _ _ _ _ _ _ (@YY _ _ _ (@Ys _ _ _ _ _ _ _ _ _ _ _ _ m9 hr (@Ya _ _ _ _ _ (pv 0) Yc (by rfl)) (by omega) (by rfl) (by rfl) (by decide) (by rfl) (by rfl)) (by intro _;rfl)) (@Yf _ _ _ Yy) Ym) (@Yd _ _ _ _ _ (@Yx _ _ _ _ _ _ _ _ (@YY _ _ _ (@Ys _ _ _ _ _ _ _ _ _ _ _ _ ZL hr (@Ya _ _ _ _ _ (pv 0) Yc (by rfl)) (by omega) (by rfl) (by rfl) (by decide) (by rfl) (by rfl)) (by intro _;rfl)) (@Yf _ _ _ (@Yl _ _ _ _ (@X5 _ _ _ _ _ _ _ (@Ys _ _ _ _ _ _ _ _ _ _ _ _ ZL hr (@Ya _ _ _ _ _ (pv 1) Yc (by rfl)) (by omega) (by rfl) (by rfl) (by decide) (by rfl) (by rfl)) (@X4 _ _ _ _ _ (@Xe _ _ _ _ _ _ _ _ YK (pv 0) (pv 1) (Yo _)))))) Ym) (@Yd _ _ _ _ _ Yy (@Yd _ _ _ _ _ Yy (@Yd _ _ _ _ _ Yy (@Yf _ _ _ Yy)))))),?_⟩;walk_at "rd";exact ⟨i,rfl,_,rfl,Y5 (by decide) ⟨i,rfl,_,rfl,Xx rfl ⟨j,rfl,_,rfl,Xx rfl q⟩⟩⟩
def cH (lo:Int):Β->Int
 | .str z=>z.length
 | .list ds=>ds.length
 | .tuple [_,.int i]=>i - lo+1
 | .int i=>i - lo
 | _=>0
inductive fB (vs:List V) (H:Hp) (Q:VK) (E_:XK):Prop
 | mk (v:V) (lo:Int) (p:Sh) (d:Β) (h0:vs=[v,.int lo]) (h1:DV H v d) (h2:gd lo p d) (h3:p ≠ .rw) (h4:Q (.int (cH lo d)) H)
theorem QN  (R:g.Raw "_law_weight" "_law_weight" yU ["_law_deed_here","_law_low"]) (Z3:g.mg "isinstance"=none) (aA:g.mg "len"=none) (aH:g.mg "list"=none) (cG:g.mg "str"=none) (Z5:g.mg "tuple"=none):g.Fn (1) "_law_weight" ["_law_deed_here","_law_low"] (fB):=by
 refine R.fn QM (fun vs H Q E h=>by obtain ⟨v,lo,p,d,rfl,hv,hg,hp,q⟩:=h;rfl) fun f_ cdv A outer s H vs Q E hr h=>?_
 obtain ⟨v,lo,p,d,rfl,hv,hg,hp,q⟩:=h;refine ⟨_,(@Yd _ _ _ _ _ (@Yx _ _ _ _ _ _ _ _ (@Vj _ _ _ _ _ _ _ (@YY _ _ _ (@YG _ _ _ _ _ _ _ _ _ _ Z3 YH (@Ya _ _ _ _ _ (pv 0) (@Ya _ _ _ _ _ (@Xk _ _ _ _ ("str") cG (by decide +kernel) (by rfl) (by rfl) (by decide) (by decide)) Yc (by rfl)) (by rfl)) (by decide +kernel) (by rfl) (by rfl) (by decide) (by decide) (by rfl) (by rfl)) (by intro _;rfl)) (@WG _ _ _ _ (@YY _ _ _ (@YG _ _ _ _ _ _ _ _ _ _ Z3 YH (@Ya _ _ _ _ _ (pv 0) (@Ya _ _ _ _ _ (@Xk _ _ _ _ ("list") aH (by decide +kernel) (by rfl) (by rfl) (by decide) (by decide)) Yc (by rfl)) (by rfl)) (by decide +kernel) (by rfl) (by rfl) (by decide) (by decide) (by rfl) (by rfl)) (by intro _;rfl)))).pt (@Yf _ _ _ (@Yl _ _ _ _ (@YG _ _ _ _ _ _ _ _ _ _ aA (Yey YB WI) (@Ya _ _ _ _ _ (pv 0) Yc (by rfl)) (by decide +kernel) (by rfl) (by rfl) (by decide) (by decide) (by rfl) (by rfl)))) Ym) (@Yd _ _ _ _ _ (@Yx _ _ _ _ _ _ _ _ (@YY _ _ _ (@YG _ _ _ _ _ _ _ _ _ _ Z3 YH (@Ya _ _ _ _ _ (pv 0) (@Ya _ _ _ _ _ (@Xk _ _ _ _ ("tuple") Z5 (by decide +kernel) (by rfl) (by rfl) (by decide) (by decide)) Yc (by rfl)) (by rfl)) (by decide +kernel) (by rfl) (by rfl) (by decide) (by decide) (by rfl) (by rfl)) (by intro _;rfl)) (@Yf _ _ _ (@Yl _ _ _ _ (@Fj _ _ _ _ _ _ _ _ (@Yq _ _ _ _ _ _ _ _ YK (@Yv _ _ _ _ _ _ _ YD (pv 0) Yh (fun _ _=>rfl)) YC (Yo _)) Yh (@Yn _ _ _ _ _ _ _ _ YT (@Yn _ _ _ _ _ _ _ _ Vc (@Yv _ _ _ _ _ _ _ YD (pv 0) Yh (fun _ _=>rfl)) (pv 1)) Yh)))) Ym) (@Yf _ _ _ (@Yl _ _ _ _ (@Yn _ _ _ _ _ _ _ _ Vc (pv 0) (pv 1)))))),?_⟩;have ty:=hv.ty (K:=g.K);walk_at "rd"
 cases p with
 | wh =>
  obtain ⟨o,ho,rfl⟩:=hg
  cases hv.d8
  exact ⟨_,rfl,_,ty,false,rfl,YQ ⟨_,rfl,_,ty,false,rfl,YQ ⟨_,rfl,_,ty,false,rfl,YQ ⟨_,rfl,q⟩⟩⟩⟩
 | tx =>
  obtain ⟨l,hl,n,rfl⟩:=hg
  cases hv.bM.1
  exact ⟨_,rfl,_,ty,true,rfl,XY (.inr ⟨_,rfl,by rw [XO];exact ah n (by decide),q⟩)⟩
 | rw=>exact absurd rfl hp
 | pk =>
  rcases hg with rfl | ⟨o,ho,rfl⟩
  ·obtain ⟨a,u,w,rfl,ha,h1,h2⟩:=dJ hv
   cases h1.bM.1
   exact ⟨_,rfl,_,ty,false,rfl,YQ ⟨_,rfl,_,ty,false,rfl,YQ ⟨_,rfl,_,ty,true,rfl,XY ⟨_,rfl,_,aq.of ha,_,Yk (j:=0) rfl,rfl,Xx rfl q⟩⟩⟩⟩
  ·obtain ⟨a,u,w,rfl,ha,h1,h2⟩:=dJ hv
   cases h1.bM.1
   cases h2.d8
   exact ⟨_,rfl,_,ty,false,rfl,YQ ⟨_,rfl,_,ty,false,rfl,YQ ⟨_,rfl,_,ty,true,rfl,XY ⟨_,rfl,_,aq.of ha,_,Yk (j:=0) rfl,rfl,Y5 (fun z=>absurd (V.str.inj z) (by decide +kernel)) ⟨_,rfl,_,aq.of ha,_,Yk (j:=1) rfl,_,rfl,q⟩⟩⟩⟩⟩
 | my p =>
  obtain ⟨ds,n,_,rfl⟩:=hg;obtain ⟨a,us,rfl,ha,_,hd⟩:=hv.bD;have e:=hd.length;have q:Q (.int (ds.length:Nat)) H:=q;rw [<- e] at q
  exact ⟨_,rfl,_,ty,false,rfl,YQ ⟨_,rfl,_,ty,true,rfl,XY (.inl ⟨_,rfl,_,.inl (ao.of ha),q⟩)⟩⟩
def fW (how bad:Int) (ws:List Int):Bool :=
 if how=0 then decide (bad<=ws.sum)
 else if how=1 then (match ws.reverse with
  | a::b::_=>decide (a=b)
  | _=>false)
 else if how=2 then decide (bad<=(ws.length:Int))
 else decide (ws.sum%3=bad%3)
theorem YdR (xs:List V) (x:V):eU (xs++[x]) (-1)=some x:=by
 have:eO (xs++[x]).length (-1)=some xs.length:=by
  rw [Ζ,δ];unfold eO;rw [if_neg (by omega)]
  split
  ·congr 1;omega
  ·omega
 rw [eU,this,Option.bind_some,ar (Μ _),ei];rfl
theorem YdS (xs:List V) (x y:V):eU (xs++[x,y]) (-2)=some x:=by
 have:eO (xs++[x,y]).length (-2)=some xs.length:=by
  rw [Ζ,am,δ];unfold eO;rw [if_neg (by omega)]
  split
  ·congr 1;omega
  ·omega
 rw [eU,this,Option.bind_some,ar (Μ _),ei];rfl
inductive fC (vs:List V) (H:Hp) (Q:VK) (E_:XK):Prop
 | mk (how bad:Int) (W:Addr) (ws:List Int) (h0:vs=[.int how,.int bad,.ref W]) (h1:H W=some (.lst (ws.map V.int))) (h2:Q (.bl (fW how bad ws)) H)
theorem Ya9  (R:g.Raw "_law_flag" "_law_flag" yV ["_law_how","_law_bad","_law_weights"]) (aA:g.mg "len"=none) (cZ:g.mg "sum"=none):g.Fn (1) "_law_flag" ["_law_how","_law_bad","_law_weights"] (fC):=by
 refine R.fn Ya1 (fun vs H Q E h=>by obtain ⟨how,bad,W,ws,rfl,hW,q⟩:=h;rfl) fun f_ cdv A outer s H vs Q E hr h=>?_
 obtain ⟨how,bad,W,ws,rfl,hW,q⟩:=h;refine ⟨_,(@Yd _ _ _ _ _ (@Yx _ _ _ _ _ _ _ _ (@Yq _ _ _ _ _ _ _ _ YK (pv 0) Yh (Yo _)) (@Yf _ _ _ (@Yl _ _ _ _ (@Xe _ _ _ _ _ _ _ _ Ga (@YG _ _ _ _ _ _ _ _ _ _ cZ Wv (@Ya _ _ _ _ _ (pv 2) Yc (by rfl)) (by decide +kernel) (by rfl) (by rfl) (by decide) (by decide) (by rfl) (by rfl)) (pv 1) (Yo _)))) Ym) (@Yd _ _ _ _ _ (@Yx _ _ _ _ _ _ _ _ (@Yq _ _ _ _ _ _ _ _ YK (pv 0) Yh (Yo _)) (@Yf _ _ _ (@Yl _ _ _ _ (@X5 _ _ _ _ _ _ _ (@Xe _ _ _ _ _ _ _ _ Us (@YG _ _ _ _ _ _ _ _ _ _ aA YB (@Ya _ _ _ _ _ (pv 2) Yc (by rfl)) (by decide +kernel) (by rfl) (by rfl) (by decide) (by decide) (by rfl) (by rfl)) Yh (Yo _)) (@X4 _ _ _ _ _ (@Xe _ _ _ _ _ _ _ _ YK (@Yv _ _ _ _ _ _ _ Y9 (pv 2) (@WO _ _ _ _ _ _ Ws Yh) (fun _ _=>rfl)) (@Yv _ _ _ _ _ _ _ Y9 (pv 2) (@WO _ _ _ _ _ _ Ws Yh) (fun _ _=>rfl)) (Yo _)))))) Ym) (@Yd _ _ _ _ _ (@Yx _ _ _ _ _ _ _ _ (@Yq _ _ _ _ _ _ _ _ YK (pv 0) Yh (Yo _)) (@Yf _ _ _ (@Yl _ _ _ _ (@Xe _ _ _ _ _ _ _ _ Ga (@YG _ _ _ _ _ _ _ _ _ _ aA YB (@Ya _ _ _ _ _ (pv 2) Yc (by rfl)) (by decide +kernel) (by rfl) (by rfl) (by decide) (by decide) (by rfl) (by rfl)) (pv 1) (Yo _)))) Ym) (@Yf _ _ _ (@Yl _ _ _ _ (@Xe _ _ _ _ _ _ _ _ YK (@Yn _ _ _ _ _ _ _ _ Xc (@YG _ _ _ _ _ _ _ _ _ _ cZ Wv (@Ya _ _ _ _ _ (pv 2) Yc (by rfl)) (by decide +kernel) (by rfl) (by rfl) (by decide) (by decide) (by rfl) (by rfl)) Yh) (@Yn _ _ _ _ _ _ _ _ Xc (pv 1) Yh) (Yo _))))))),?_⟩;walk_at "rd";have hs:=ao.of (K:=g.K) hW;unfold fW at q;refine U0 (fun c=>?_) fun c=>?_
 ·rw [if_pos c] at q;exact ⟨ws,hs,q⟩
 rw [if_neg c] at q
 refine U0 (fun c=>?_) fun c=>?_
 ·rw [if_pos c] at q
  refine ⟨_,.inl hs,?_⟩;rw [Ε];rcases List.eq_nil_or_concat ws with rfl | ⟨l,a,rfl⟩
  ·exact Y5 (by simp) q
  rw [List.concat_eq_append] at hs q ⊢
  rcases List.eq_nil_or_concat l with rfl | ⟨l,b,rfl⟩
  ·exact Y5 (by simp) q
  rw [List.concat_eq_append] at hs q ⊢
  rw [List.reverse_append,List.reverse_append] at q
  have q:Q (.bl (decide (a=b))) H:=q;refine Xx (by simp only [Ζ,δ];omega) ⟨_,hs,.int a,by rw [ξ];exact YdR _ _,_,hs,.int b,by rw [ca,ξ];exact YdS _ _ _,rfl,?_⟩;rw [show decide (V.int a=V.int b)=decide (a=b) from decide_eq_decide.mpr ⟨fun e=>V.int.inj e,fun e=>by rw [e]⟩];exact q
 rw [if_neg c] at q
 refine U0 (fun c=>?_) fun c=>?_
 ·rw [if_pos c] at q
  refine ⟨_,.inl hs,?_⟩;rw [Ε];exact q
 rw [if_neg c] at q
 exact ⟨ws,hs,by decide,by decide,q⟩
def eY (H:Hp) (S W:Addr) (ws:List Int):Prop:=H S=some (.dK [(.inr "weights",.ref W)])/\H W=some (.lst (ws.map V.int))
def Ygq (fv vs:List V) (H:Hp) (Q:VK):Prop:=fv=[]/\vs=[]/\∀ S W H',Ye H H'->H S=none->H W=none->eY H' S W []->Q (.ref S) H'
theorem Z1w {k:Nat}   {f_ c_:Addr} {doc pm ctv:Α} {l:Yz}  (hl:l.map (·.1)=([]:List Str)) (hnd:l.as.Nodup):aY g.P g.w g.K g.mg g.base bV (k+1) f_ (Zt l.cl c_ doc pm ctv) [] (fun vs H Q _=>W8 H f_ c_ (Zt l.cl c_ doc pm ctv) Zl l/\(Ygq) l.vs vs (off H l.as) fun v H'=>(∀ c∈l.as,H' c=none)->Q v (on H' H l.as)):=by
 refine HD (N:=[]) (by rw [hl];exact Z1u) hnd (fun vs H Q h=>by obtain ⟨eZ,rfl,q⟩:=h;rfl) fun A outer s H vs Q hr h=>?_
 obtain ⟨eZ,rfl,q⟩:=h;refine ⟨_,(@Yf _ _ _ (@Yl _ _ _ _ (@R4 _ _ _ _ _ (@R3 _ _ _ _ _ _ _ _ _ YC (@YU _ _ _ _ Yc) R0) rfl rfl (by simp) (by simp)))),?_⟩;rw [eZ]
 show (UU _:TS) _ [] H
 walk_at "rd";unfold GJ;intro S hS;refine ⟨few (by decide),fun W hW=>?_⟩;have WS:W≠S:=ω (Yj Yb hW);have s1:=(Ye.aj hS (.dK [])).trans (.aj hW (.lst []))
 show _/\_
 refine ⟨by rw [Yg (ω WS),Yb],[(.inr "weights",.ref W)],rfl,(show 1<=15 by decide),?_⟩;exact q S W _ (.aP hS s1 _) hS (Xy hW) ⟨by rw [Yb];rfl,by rw [Yg WS,Yb];rfl⟩
def bit (how bad:Int) (ws:List Int):Int:=if how<4/\fW how bad ws=true then 1 else 0
def Yg3 (K:Κ) (fv vs:List V) (H:Hp) (Q:VK):Prop:=∃ (how bad lo:Int) (S W:Addr) (ws:List Int) (v:V) (p:Sh) (d:Β),fv=[.int lo,.int how,.int bad]/\vs=[.ref S,v]/\eY H S W ws/\ws.length<=100/\DV H v d/\gd lo p d/\p ≠ .rw /\
 ∀ T H',H T=none->H' T=some (.tup [.ref S,.int (((ws.length+1:Nat):Int)+bit how bad (ws++[cH lo d]))])->eY H' S W (ws++[cH lo d])->(∀ a o,a≠W->H a=some o->H' a=some o)->Q (.ref T) H'
theorem Z1E {k:Nat}   {f_ c_:Addr} {doc pm ctv:Α} {l:Yz} (ZN:g.Fn k "_law_weight" ["_law_deed_here","_law_low"] (fB)) (mK:g.Fn k "_law_flag" ["_law_how","_law_bad","_law_weights"] (fC)) (cF:g.mg "int"=none) (aA:g.mg "len"=none) (hl:l.map (·.1)=(["_law_low","_law_how","_law_bad"]:List Str)) (hnd:l.as.Nodup):aY g.P g.w g.K g.mg g.base bV (k+1) f_ (Zz l.cl c_ doc pm ctv) ["_law_state","_law_deed_here"] (fun vs H Q _=>W8 H f_ c_ (Zz l.cl c_ doc pm ctv) Zn l/\(Yg3 g.K) l.vs vs (off H l.as) fun v H'=>(∀ c∈l.as,H' c=none)->Q v (on H' H l.as)):=by
 refine HD (N:=["_law_state","_law_deed_here","_law_some","_law_low","_law_how","_law_bad"]) (by rw [hl];exact Jj) hnd (fun vs H Q h=>by obtain ⟨how,bad,lo,S,W,ws,v,p,d,eZ,rfl,hs,hl,hv,hg,hp,q⟩:=h;rfl) fun A outer s H vs Q hr h=>?_
 obtain ⟨how,bad,lo,S,W,ws,v,p,d,eZ,rfl,hs,hl,hv,hg,hp,q⟩:=h;have hu:=Gs hr;refine ⟨_,(@Yd _ _ _ _ _ (@Yr _ _ (2) _ _ _ _ Jj.nd rfl (.inl rfl) (@RX _ _ _ _ _ _ (Gs hr) (pv 0) YC (fun _ _=>rfl)) (by rfl) (by first | exact .inl rfl | exact .inr rfl | assumption)) (@Yd _ _ _ _ _ (@Y0 _ _ _ _ (@Xw _ _ _ _ _ _ _ _ _ _ _ _ PySem.F.plainAttrs_list PySem.F.slot_list_append PySem.F.type_list_append Y6 (pv 2) (@Ya _ _ _ _ _ (@Ys _ _ _ _ _ _ _ _ _ _ _ _ ZN hr (@Ya _ _ _ _ _ (pv 1) (@Ya _ _ _ _ _ (pv 3) Yc (by rfl)) (by rfl)) (by omega) (by rfl) (by rfl) (by decide) (by rfl) (by rfl)) Yc (by rfl)) (by rfl) (by rfl) (by rfl) (by rfl) (by rfl)) (by rfl)) (@Yf _ _ _ (@Yl _ _ _ _ (@YZ _ _ _ _ _ (@Ya _ _ _ _ _ (pv 0) (@Ya _ _ _ _ _ (@Yn _ _ _ _ _ _ _ _ YT (@YG _ _ _ _ _ _ _ _ _ _ aA YB (@Ya _ _ _ _ _ (pv 2) Yc (by rfl)) (by decide +kernel) (by rfl) (by rfl) (by decide) (by decide) (by rfl) (by rfl)) (@Wp _ _ _ _ _ _ _ _ _ _ cF PB (@Ya _ _ _ _ _ (@X5 _ _ _ _ _ _ _ (@Xe _ _ _ _ _ _ _ _ FZ (pv 4) Yh (Yo _)) (@X4 _ _ _ _ _ (@Ys _ _ _ _ _ _ _ _ _ _ _ _ mK hr (@Ya _ _ _ _ _ (pv 4) (@Ya _ _ _ _ _ (pv 5) (@Ya _ _ _ _ _ (pv 2) Yc (by rfl)) (by rfl)) (by rfl)) (by omega) (by rfl) (by rfl) (by decide) (by rfl) (by rfl)))) Yc (by rfl)) (by decide +kernel) (by rfl) (by rfl) (by decide) (by decide) (by rfl) (by rfl))) Yc (by rfl)) (by rfl))))))),?_⟩;rw [eZ]
 show (_:TS) _ [some (.ref S),some v,none,some (.int lo),some (.int how),some (.int bad)] H
 walk_at "rd";have hg0:Vm H S (.str "weights") (some (.ref W)):=by
  have:=Vm.k (k := .inr "weights") hs.1;rw [Uf rfl] at this
  exact this
 refine ⟨_,hg0,.inl ⟨rfl,_,ao.of hs.2⟩,v,lo,p,d,rfl,hv,hg,hp,W,rfl,_,hs.2,few (by rw [Ε];omega),W,rfl,_,.inl (ao.of Yb),?_⟩;have SW:S≠W:=YI hs.1 hs.2 (by intro z;cases z);have hW':upd H W (.lst (ws.map V.int++[V.int (cH lo d)])) W=some (.lst ((ws++[cH lo d]).map V.int)):=by rw [Yb,ξ];rfl
 have hS':upd H W (.lst (ws.map V.int++[V.int (cH lo d)])) S=some (.dK [(.inr "weights",.ref W)]):=by rw [Yg SW];exact hs.1
 have fin:∀ (i:Int) T,i=bit how bad (ws++[cH lo d])->upd H W (.lst (ws.map V.int++[V.int (cH lo d)])) T=none->Q (.ref T) (upd (upd H W (.lst (ws.map V.int++[V.int (cH lo d)]))) T (.tup [.ref S,.int (((ws.map V.int++[V.int (cH lo d)]).length:Nat)+i)])):=fun i T e hT=>by
  have sT:=Ye.aj hT (.tup [.ref S,.int (((ws.map V.int++[V.int (cH lo d)]).length:Nat)+i)]);refine q T _ (Xy hT) ?_ ⟨sT _ _ hS',sT _ _ hW'⟩ fun b o hb e=>sT _ _ (by rw [Yg hb];exact e)
  rw [Yb,e,Ζ,Ε,δ]
 refine U0 (fun c=>?_) fun c=>?_
 ·refine ⟨how,bad,W,_,rfl,hW',.inr ⟨_,rfl,few (by decide),fun T hT=>fin _ T ?_ hT⟩⟩
  unfold bit
  cases e:fW how bad (ws++[cH lo d]) with
  | true=>rw [if_pos rfl,if_pos ⟨c,rfl⟩]
  | false=>rw [if_neg (by decide),if_neg (fun h=>by cases h.2)]
 ·refine .inr ⟨few (by decide),fun T hT=>fin _ T ?_ hT⟩
  unfold bit;rw [if_neg (fun h=>c h.1)]
def NL (H H':Hp):Prop:=(∀ b xs,H b=some (.tup xs)->H' b=some (.tup xs))/\∀ b φ,H b=some (.ext φ)->H' b=some (.ext φ)
theorem NL.refl (H:Hp):NL H H:=⟨fun _ _ e=>e,fun _ _ e=>e⟩
theorem NL.trans {H H1 H2:Hp} (a:NL H H1) (b:NL H1 H2):NL H H2:=⟨fun c o e=>b.1 c o (a.1 c o e),fun c o e=>b.2 c o (a.2 c o e)⟩
theorem WB {H H':Hp} (s:Ye H H'):NL H H':=⟨fun b o e=>s b _ e,fun b o e=>s b _ e⟩
theorem Aq {H H':Hp} (h:Kt H H'):NL H H':=⟨fun b xs e=>h b _ (by intro ps z;cases z) e,fun b φ e=>h b _ (by intro ps z;cases z) e⟩
theorem Vi {H H':Hp} {P:Addr} {ps:Array Α} (hk:∀ a o,a≠P->H a=some o->H' a=some o) (hP:H P=some (.aN ps)):Kt H H':=fun c o n e=>hk c o (YI e hP (n _)) e
theorem WW {H H':Hp} {f c:Addr} {fd:bg} {q:Str} {l:Yz} (h:W8 H f c fd q l) (n:NL H H'):W8 H' f c fd q l :=
 ⟨n.2 _ _ h.1,n.2 _ _ h.2.1,fun p hp=>n.2 _ _ (h.2.2 p hp)⟩
abbrev uT (g:Gx) (j:Nat) (f:Addr) (fd:bg) (ps:List Str) (sp:Sp):Prop:=aY g.P g.w g.K g.mg g.base bV j f fd ps sp/\∀ us:List Α,us.length=ps.length->fo fd ⟨us,[]⟩=pure (ps.zip us)
def Wq (g:Gx) (H:Hp) (f:Addr):Prop:=∃ fd sp,uT g 10 f fd [] sp/\H f=some (bK f fd)/\∀ (H1:Hp) (Q:VK),NL H H1->(∀ S W H',Ye H1 H'->H1 S=none->H1 W=none->eY H' S W []->Q (.ref S) H')->H1 f=some (bK f fd)/\sp [] H1 Q E0
def XW (g:Gx) (H:Hp) (f:Addr) (how bad lo:Int):Prop:=∃ fd sp,uT g 10 f fd ["_law_state","_law_deed_here"] sp/\H f=some (bK f fd) /\
 ∀ (H1:Hp) (S W:Addr) (ws:List Int) (v:V) (p:Sh) (d:Β) (Q:VK),NL H H1->eY H1 S W ws->ws.length<=100->DV H1 v d->gd lo p d->p ≠ .rw ->
  (∀ T H',H1 T=none->H' T=some (.tup [.ref S,.int (((ws.length+1:Nat):Int)+bit how bad (ws++[cH lo d]))])->eY H' S W (ws++[cH lo d])->(∀ a o,a≠W->H1 a=some o->H' a=some o)->Q (.ref T) H')->H1 f=some (bK f fd)/\sp [.ref S,v] H1 Q E0
theorem Wq.nl {g:Gx} {H H':Hp} {f:Addr} (h:Wq g H f) (n:NL H H'):Wq g H' f:=by
 obtain ⟨fd,sp,h1,h2,h3⟩:=h;exact ⟨fd,sp,h1,n.2 _ _ h2,fun H1 Q n1=>h3 H1 Q (n.trans n1)⟩
theorem XW.nl {g:Gx} {H H':Hp} {f:Addr} {how bad lo:Int} (h:XW g H f how bad lo) (n:NL H H'):XW g H' f how bad lo:=by
 obtain ⟨fd,sp,h1,h2,h3⟩:=h;exact ⟨fd,sp,h1,n.2 _ _ h2,fun H1 S W ws v p d Q n1=>h3 H1 S W ws v p d Q (n.trans n1)⟩
def bT (lo:Int) (ds:List Β) (n:Nat):List Int:=(ds.take n).map (cH lo)
theorem Kq {lo:Int} {ds:List Β} {i:Nat} {d:Β} (h:ds[i]?=some d):bT lo ds (i+1)=bT lo ds i++[cH lo d]:=by
 unfold bT;rw [Xb h,ξ];rfl
def brk (how bad lo:Int) (ds:List Β):Bool:=(ai ds.length).any fun i=>fW how bad (bT lo ds (i+1))
inductive gU (g:Gx) (vs:List V) (H:Hp) (Q:VK) (E_:XK):Prop
 | mk (b1 f1 b2 f2:Addr) (D:V) (how bad bf lo:Int) (p:Sh) (ds:List Β) (h0:vs=[.ref b1,.ref f1,.ref b2,.ref f2,D]) (h1:Wq g H b1) (h2:XW g H f1 4 bf lo) (h3:Wq g H b2) (h4:XW g H f2 how bad lo) (h5:how<4) (h6:DV H D (.list ds)) (h7:(∀ d∈ds,gd lo p d)) (h8:p ≠ .rw) (h9:aQ p<=3) (h10:ds.length<=4) (h11:∀ v H',Ye H H'->(v = .non/\brk how bad lo ds=false\/(∃ i,v = .int i)/\brk how bad lo ds=true)->Q v H')
inductive ApV (H:Hp) (b1 f1 b2 f2:Addr) (D:V) (S1 W1 S2 W2:Addr) (how bad lo:Int) (ds:List Β) (i:Nat) (σ:St) (H':Hp):Prop
 | mk (o7 o8 o9 Ar:Option V) (e:σ=[some (.ref b1),some (.ref f1),some (.ref b2),some (.ref f2),some D,some (.ref S1),some (.ref S2),o7,o8,o9,Ar]) (sm:Ye H H') (s1:eY H' S1 W1 (bT lo ds i)) (s2:eY H' S2 W2 (bT lo ds i)) (no:∀ j<i,fW how bad (bT lo ds (j+1))=false)
theorem YeW {k:Nat}  (R:g.Raw "apart" "apart" Qh ["begin","done","model_begin","model_done","deeds"]) (Zx:g.Fn k "copied" ["thing"] (Zs 6)) (Av:g.Fn k "same" ["one","other"] (mJ)) (hkc:10<=k) (Zi:g.mg "enumerate"=none):g.Fn (k+1) "apart" ["begin","done","model_begin","model_done","deeds"] (gU g):=by
 refine R.fn ZP (fun vs H Q E h=>by obtain ⟨b1,f1,b2,f2,D,how,bad,bf,lo,p,ds,rfl,hb1,hf1,hb2,hf2,h4,hD,hg,hp,jU,hl,q⟩:=h;rfl) fun f_ cdv A outer s H vs Q E hr h=>?_
 obtain ⟨b1,f1,b2,f2,D,how,bad,bf,lo,p,ds,rfl,hb1,hf1,hb2,hf2,h4,hD,hg,hp,jU,hl,q⟩:=h;refine ⟨_,(@Yd _ _ _ _ _ (@Yr _ _ (5) _ _ _ _ ZP.nd rfl (.inl rfl) (@Qy _ (g) _ (10) _ _ _ 0 hr (by omega) (by rfl) (by rfl) (by first | exact .inl rfl | exact .inr (.inl rfl) | exact .inr (.inr rfl)) (by decide) (by decide)) (by rfl) (by first | exact .inl rfl | exact .inr rfl | assumption)) (@Yd _ _ _ _ _ (@Yr _ _ (6) _ _ _ _ ZP.nd rfl (.inl rfl) (@Qy _ (g) _ (10) _ _ _ 2 hr (by omega) (by rfl) (by rfl) (by first | exact .inl rfl | exact .inr (.inl rfl) | exact .inr (.inr rfl)) (by decide) (by decide)) (by rfl) (by first | exact .inl rfl | exact .inr rfl | assumption)) (@Yd _ _ _ _ _ (@Xo _ _ _ _ _ _ _ _ ae rfl (@Ui _ _ _ _ _ _ _ _ rfl Zi (@Ya _ _ _ _ _ (pv 4) Yc (by rfl)) (by rfl)) (@WH _ _ _ _ _ (2) rfl (@Y7 _ _ _ _ _ (@Yu _ _ (7) _ ZP.nd rfl (.inl rfl) (by first | exact .inl rfl | exact .inr rfl | assumption)) (@Y7 _ _ _ _ _ (@Yu _ _ (8) _ ZP.nd rfl (.inl rfl) (by first | exact .inl rfl | exact .inr rfl | assumption)) Wf (by rfl)) (by rfl)) (by rfl) (by rfl)) (@Yd _ _ _ _ _ (@Yr _ _ (9) _ _ _ _ ZP.nd rfl (.inl rfl) (@Vo _ (g) _ (10) _ _ _ _ _ _ 1 hr (@Ya _ _ _ _ _ (pv 5) (@Ya _ _ _ _ _ (@Ys _ _ _ _ _ _ _ _ _ _ _ _ Zx hr (@Ya _ _ _ _ _ (pv 8) Yc (by rfl)) (by omega) (by rfl) (by rfl) (by decide) (by rfl) (by rfl)) Yc (by rfl)) (by rfl)) (by omega) (by rfl) (by rfl) (by first | exact .inl rfl | exact .inr (.inl rfl) | exact .inr (.inr rfl)) (by decide) (by decide) (by rfl) (by rfl)) (by rfl) (by first | exact .inl rfl | exact .inr rfl | assumption)) (@Yd _ _ _ _ _ (@Yr _ _ (10) _ _ _ _ ZP.nd rfl (.inl rfl) (@Vo _ (g) _ (10) _ _ _ _ _ _ 3 hr (@Ya _ _ _ _ _ (pv 6) (@Ya _ _ _ _ _ (@Ys _ _ _ _ _ _ _ _ _ _ _ _ Zx hr (@Ya _ _ _ _ _ (pv 8) Yc (by rfl)) (by omega) (by rfl) (by rfl) (by decide) (by rfl) (by rfl)) Yc (by rfl)) (by rfl)) (by omega) (by rfl) (by rfl) (by first | exact .inl rfl | exact .inr (.inl rfl) | exact .inr (.inr rfl)) (by decide) (by decide) (by rfl) (by rfl)) (by rfl) (by first | exact .inl rfl | exact .inr rfl | assumption)) (@Yd _ _ _ _ _ (@Yx _ _ _ _ _ _ _ _ (@Wr _ _ _ _ (@YY _ _ _ (@Ys _ _ _ _ _ _ _ _ _ _ _ _ Av hr (@Ya _ _ _ _ _ (@Yv _ _ _ _ _ _ _ YD (pv 9) Yh (fun _ _=>rfl)) (@Ya _ _ _ _ _ (@Yv _ _ _ _ _ _ _ YD (pv 10) Yh (fun _ _=>rfl)) Yc (by rfl)) (by rfl)) (by omega) (by rfl) (by rfl) (by decide) (by rfl) (by rfl)) (by intro _;rfl))) (@Yf _ _ _ (@Yl _ _ _ _ (pv 7))) Ym) (@Yd _ _ _ _ _ (@Yr _ _ (5) _ _ _ _ ZP.nd rfl (.inl rfl) (@Yv _ _ _ _ _ _ _ YD (pv 9) Yh (fun _ _=>rfl)) (by rfl) (by first | exact .inl rfl | exact .inr rfl | assumption)) (@Yf _ _ _ (@Yr _ _ (6) _ _ _ _ ZP.nd rfl (.inl rfl) (@Yv _ _ _ _ _ _ _ YD (pv 10) Yh (fun _ _=>rfl)) (by rfl) (by first | exact .inl rfl | exact .inr rfl | assumption))))))) (by intro _;rfl)) (@Yf _ _ _ (@Yl _ _ _ _ XF))))),?_⟩;obtain ⟨fd1,s1,ok1,NZ,hj1⟩:=hf1;obtain ⟨fd2,s2,ok2,N5,hj2⟩:=hf2;obtain ⟨fb1,t1,Aw,N6,hk1⟩:=hb1;obtain ⟨fb2,t2,Ax,N7,hk2⟩:=hb2;obtain ⟨DA,us,rfl,hDA,_,hus⟩:=hD.bD;have ul:=hus.length;refine Yp fun R rr=>?_
 walk_at "rd";refine ⟨b1,fb1,[],t1,rfl,Aw.1,Aw.2,N6,?_⟩;refine hk1 H _ (.refl _) fun S1 W1 H1 w1 gS1 gW1 st1=>rr _ _ (Yp fun R rr=>?_)
 walk_at "rd";refine ⟨b2,fb2,[],t2,rfl,Ax.1,Ax.2,w1 _ _ N7,?_⟩;refine hk2 H1 _ (WB w1) fun S2 W2 H2 w2 gS2 Ay st2=>rr _ _ (Yp fun R rr=>?_)
 have w12:=w1.trans w2;have nW:W1≠W2:=Yj st1.2 Ay;have nS1:S1≠W2:=Yj st1.1 Ay;have N8:H W2=none:=w1.free Ay;have Oa:eY H2 S1 W1 []:=⟨w2 _ _ st1.1,w2 _ _ st1.2⟩;have nS2:S2≠W1:=ω (Yj st1.2 gS2);refine Vn (K:=g.K) (a:=DA) (xs:=us) (ApV H b1 f1 b2 f2 (.ref DA) S1 W1 S2 W2 how bad lo ds) (fun R r=>by walk_at "rd";exact r) ⟨_,_,_,_,rfl,w12,Oa,st2,(fun j h=>by omega)⟩ (fun i σ H' _ ⟨_,_,_,_,_,sm,_,_,_⟩=>ao.of (sm _ _ hDA)) ?_ ?_
 ·rintro i v σ H' T hx ⟨o7,o8,o9,Ar,rfl,sm,Az,Ba,hno⟩ hT
  have hi:=(Ι.mp hx).1;have hxi:ds[i]?=some (ds[i]'(by omega)):=Χ _;generalize ds[i]'(by omega)=d at hxi;have hd:=XQ hus hx hxi;have hgd:=hg d (Τ hxi);have rz:=Vr hgd;have wl:(bT lo ds i).length<=100:=by unfold bT;rw [Ε,ι];omega
  have ws:=Kq (lo:=lo) hxi;have sT:=Ye.aj hT (.tup [.int (i:Int),v]);have sA:=sm.trans sT;refine ⟨T,_,rfl,aq.of Yb,rfl,_,_,rfl,_,_,rfl,rfl,Yp fun R rr=>?_⟩;walk_at "rd";refine ⟨f1,fd1,_,s1,rfl,ok1.1,ok1.2,sA _ _ NZ,?_⟩;walk_at "rd";refine ⟨v,d,rfl,hd.keep sA,by omega,fun v1 H3 L3 s3 ow=>?_⟩;have sB:=sA.trans s3;have uU:=sT.trans s3;refine hj1 H3 S1 W1 _ v1 p d _ (WB sB) ⟨uU _ _ Az.1,uU _ _ Az.2⟩ wl ⟨_,ow.vl⟩ hgd hp fun T1 H4 gT1 hT1 Bb k4=>rr _ _ (Yp fun R rr=>?_)
  have sC:Ye H H4:=fun a o e=>k4 a o (Yj e gW1) (sB _ _ e)
  have rA:eY H4 S2 W2 (bT lo ds i):=⟨k4 _ _ nS2 (uU _ _ Ba.1),k4 _ _ (ω nW) (uU _ _ Ba.2)⟩;walk_at "rd";refine ⟨f2,fd2,_,s2,rfl,ok2.1,ok2.2,sC _ _ N5,?_⟩;walk_at "rd";refine ⟨v,d,rfl,hd.keep sC,by omega,fun v2 H5 L5 s5 ig=>?_⟩;have sD:=sC.trans s5;refine hj2 H5 S2 W2 _ v2 p d _ (WB sD) ⟨s5 _ _ rA.1,s5 _ _ rA.2⟩ wl ⟨_,ig.vl⟩ hgd hp fun T2 H6 Jy hT2 Bc k6=>rr _ _ (Yp fun R rr=>?_)
  have sE:Ye H H6:=fun a o e=>k6 a o (Yj e N8) (sD _ _ e)
  have rB:=k6 _ _ (YI (s5 _ _ hT1) (s5 _ _ rA.2) (by intro z;cases z)) (s5 _ _ hT1);have Ob:eY H6 S1 W1 (bT lo ds (i+1)):=by
   rw [ws];exact ⟨k6 _ _ nS1 (s5 _ _ Bb.1),k6 _ _ nW (s5 _ _ Bb.2)⟩
  rw [<- ws] at rB hT2 Bc
  walk_at "rd";have a1:bit 4 bf (bT lo ds (i+1))=0:=if_neg (fun h=>by omega);refine ⟨_,aq.of rB,_,Yk (j:=1) rfl,_,aq.of hT2,_,Yk (j:=1) rfl,_,_,rfl,_,rfl,?_⟩
  cases cb:fW how bad (bT lo ds (i+1)) with
  | true =>
   have a2:bit how bad (bT lo ds (i+1))=1:=if_pos ⟨h4,cb⟩;refine Xx (by rw [a1,a2];simp;omega) (q _ H6 sE (.inr ⟨⟨_,rfl⟩,?_⟩));exact List.any_eq_true.mpr ⟨i,b8.mpr (by omega),cb⟩
  | false =>
   have a2:bit how bad (bT lo ds (i+1))=0:=if_neg (fun h=>by rw [cb] at h;cases h.2);refine Y5 (by rw [a1,a2];simp) (rr _ _ (Yp fun R rr=>?_));walk_at "rd";refine ⟨_,aq.of rB,_,Yk (j:=0) rfl,rr _ _ ?_⟩;walk_at "rd";refine ⟨_,aq.of hT2,_,Yk (j:=0) rfl,?_⟩;refine ⟨_,_,_,_,rfl,sE,Ob,Bc,fun j hj=>?_⟩;by_cases e:j=i
   ·rw [e];exact cb
   ·exact hno j (by omega)
 ·rintro σ H' ⟨o7,o8,o9,Ar,rfl,sm,Az,Ba,hno⟩
  refine rr _ _ ?_;walk_at "rd";refine q _ H' sm (.inl ⟨rfl,?_⟩);refine List.any_eq_false.mpr fun i hi=>?_
  rw [hno i (by rw [ul];exact b8.mp hi)]
  decide
abbrev cI (x1 x2 x3:Addr) (how bad lo:Int):Yz:=[("_law_low",x3,.int lo),("_law_how",x1,.int how),("_law_bad",x2,.int bad)]
theorem Kr {H:Hp} {l:Yz} (hin:∀ p∈l,H p.2.1=some (Wz p.2.1 p.2.2)) {v:V} {d:Β} (h:DV H v d):DV (off H l.as) v d:=by
 obtain ⟨L,h⟩:=h;exact ⟨L,h.bO (fun a vs e=>Qc hin e) fun a _ vs e=>WD hin e (by intro φ z;cases z)⟩
theorem YdU {g:Gx} {H:Hp} {f c:Addr} {doc pm ctv:Α} (h:W8 H f c (Zt [] c doc pm ctv) Zl []):Wq g H f:=by
 have F:=Z1w (g:=g) (k:=9) (f_:=f) (c_:=c) (doc:=doc) (pm:=pm) (ctv:=ctv) (l:=[]) rfl (by simp [Yz.as]);refine ⟨_,_,⟨F,fun us hl=>?_⟩,h.1,fun H1 Q n1 hk=>⟨(WW h n1).1,WW h n1,rfl,rfl,fun S W H' s gS gW st hc=>?_⟩⟩
 ·match us,hl with
  | [],_=>rfl
 ·have e1:off H1 (Yz.as [])=H1:=by funext z;exact YO (by simp [Yz.as])
  have e2:∀ H':Hp,on H' H1 (Yz.as [])=H':=fun H'=>by funext z;exact Y2 (by simp [Yz.as])
  rw [e1] at s gS gW
  rw [e2];exact hk S W _ s gS gW st
theorem YcG {g:Gx} {H:Hp} {f c x1 x2 x3:Addr} {how bad lo:Int} {doc pm ctv:Α} (F0:g.Fn 9 "_law_weight" ["_law_deed_here","_law_low"] fB) (F1:g.Fn 9 "_law_flag" ["_law_how","_law_bad","_law_weights"] fC) (b1:g.mg "int"=none) (b2:g.mg "len"=none) (nd:(cI x1 x2 x3 how bad lo).as.Nodup) (h:W8 H f c (Zz (cI x1 x2 x3 how bad lo).cl c doc pm ctv) Zn (cI x1 x2 x3 how bad lo)):XW g H f how bad lo:=by
 have F:=Z1E (g:=g) (k:=9) (f_:=f) (c_:=c) (doc:=doc) (pm:=pm) (ctv:=ctv) (l:=cI x1 x2 x3 how bad lo) F0 F1 b1 b2 rfl nd;refine ⟨_,_,⟨F,fun us hl=>?_⟩,h.1,fun H1 S W ws v p d Q n1 hst hl hv hg hp hk=>?_⟩
 ·match us,hl with
  | [_,_],_=>rfl
 ·have hin:=(WW h n1).2.2
  refine ⟨(WW h n1).1,WW h n1,how,bad,lo,S,W,ws,v,p,d,rfl,rfl,⟨WD hin hst.1 (by intro φ z;cases z),WD hin hst.2 (by intro φ z;cases z)⟩,hl,Kr hin hv,hg,hp,fun T H' gT hT st k hc=>?_⟩;have out:∀ {b:Addr} {o:HO},H' b=some o->b∉(cI x1 x2 x3 how bad lo).as:=fun e hm=>by rw [hc _ hm] at e;cases e
  refine hk T _ (by rw [YO (out hT)] at gT;exact gT) (by rw [Y2 (out hT)];exact hT) ⟨by rw [Y2 (out st.1)];exact st.1,by rw [Y2 (out st.2)];exact st.2⟩ fun a o na e=>?_
  by_cases hb:a∈(cI x1 x2 x3 how bad lo).as
  ·rw [VZ hb];exact e
  ·rw [Y2 hb];exact k a o na (by rw [YO hb];exact e)
def Qk (H:Hp) (P:Addr):Prop:=H P=some (.aN #[])\/∃ c1 c2,H P=some (.aN #[cy 667,cy 4,.ref c1,cy 670,cy 4,.ref c2])/\H c1=some (cX c1 Zl)/\H c2=some (cX c2 Zn)
inductive Ks (g:Gx) (P:Addr) (vs:List V) (H:Hp) (Q:VK) (E_:XK):Prop
 | mk (how bad lo:Int) (h0:vs=[.int how,.int bad,.int lo]) (h1:Qk H P) (h2:∀ t b f H',Wq g H' b->XW g H' f how bad lo->H' t=some (.tup [.ref b,.ref f])->Qk H' P->(∀ a o,a≠P->H a=some o->H' a=some o)->Q (.ref t) H')
theorem QA {g:Gx} {H H3:Hp} {P b f cb cf t x1 x2 x3:Addr} {how bad lo:Int} {e1 e2 e3 e4 e5 e6:Α} (F0:g.Fn 9 "_law_weight" ["_law_deed_here","_law_low"] fB) (F1:g.Fn 9 "_law_flag" ["_law_how","_law_bad","_law_weights"] fC) (b1:g.mg "int"=none) (b2:g.mg "len"=none) (nd:(cI x1 x2 x3 how bad lo).as.Nodup)
  (kb:H3 b=some (bK b (Zt [] cb e1 e2 e3))) (Ku:H3 cb=some (cX cb Zl))
  (kf:H3 f=some (bK f (Zz (cI x1 x2 x3 how bad lo).cl cf e4 e5 e6))) (kcf:H3 cf=some (cX cf Zn)) (kt:H3 t=some (.tup [.ref b,.ref f]))
  (kT:H3 P=some (.aN #[cy 667,cy 4,.ref cb,cy 670,cy 4,.ref cf])) (keep:∀ a o,a≠P->H a=some o->H3 a=some o) (hc:∀ c∈(cI x1 x2 x3 how bad lo).as,H3 c=none) :
  Wq g (lay H3 (cI x1 x2 x3 how bad lo)) b/\XW g (lay H3 (cI x1 x2 x3 how bad lo)) f how bad lo/\lay H3 (cI x1 x2 x3 how bad lo) t=some (.tup [.ref b,.ref f])/\Qk (lay H3 (cI x1 x2 x3 how bad lo)) P/\∀ a o,a≠P->H a=some o->lay H3 (cI x1 x2 x3 how bad lo) a=some o:=by
 have hin:=xu (H:=H3) (l:=cI x1 x2 x3 how bad lo) nd;have out:∀ {a:Addr} {o:HO},H3 a=some o->lay H3 (cI x1 x2 x3 how bad lo) a=some o:=fun {a o} e=>by
  rw [WE fun hm=>?_]
  ·exact e
  ·rw [hc a hm] at e;cases e
 exact ⟨YdU ⟨out kb,out Ku,fun q hq=>by cases hq⟩,YcG F0 F1 b1 b2 nd ⟨out kf,out kcf,hin⟩,out kt,.inr ⟨cb,cf,out kT,out Ku,out kcf⟩,fun a o h1 h2=>out (keep a o h1 h2)⟩
theorem YaJ {k:Nat}  {aU aJ:Addr} (R:g.dD "_law_thing" "_law_thing" oX ["_law_how","_law_bad","_law_low"] aU) (bm:Bm g.mg g.base) (fj:eP g.base aU aJ) (ZN:g.Fn 9 "_law_weight" ["_law_deed_here","_law_low"] (fB)) (mK:g.Fn 9 "_law_flag" ["_law_how","_law_bad","_law_weights"] (fC)) (cF:g.mg "int"=none) (aA:g.mg "len"=none):g.Fn (k+1) "_law_thing" ["_law_how","_law_bad","_law_low"] (Ks g aJ):=by
 refine R.Ie yZ (fun vs H Q E h=>by obtain ⟨how,bad,lo,rfl,ht,q⟩:=h;rfl) fun f_ A outer s H vs Q E hr h=>?_
 obtain ⟨how,bad,lo,rfl,ht,q⟩:=h;refine ⟨_,(@HX _ _ _ _ _ (@HN _ _ _ _ _ _ _ _ _ _ 3 bm fj rfl rfl yZ.nd rfl (.inl rfl) (Eq.trans rfl WM) rfl rfl rfl (.inr rfl)) (@HX _ _ _ _ _ (@HN _ _ _ _ _ _ _ _ _ _ 4 bm fj rfl rfl yZ.nd rfl (.inl rfl) (Eq.trans rfl Va) rfl rfl rfl (.inr rfl)) (@HW _ _ _ _ (@YZ _ _ _ _ _ (@Ya _ _ _ _ _ (pv 3) (@Ya _ _ _ _ _ (pv 4) Yc (by rfl)) (by rfl)))))),?_⟩;have uV:∀ n:Nat,(cI (n+1) (n+1+1) (n+1+1+1) how bad lo).as.Nodup:=fun n=>by
  show aI [n+1+1+1,n+1,n+1+1]
  simp;omega
 rcases ht with ht | ⟨c1,c2,ht,k1,k2⟩
 ·refine ⟨_,ht,trivial,.inl ⟨rfl,fun b cb fb g1 g2 g3 ⟨Oc,pm1,Od,e1⟩=>?_⟩⟩
  subst e1;have bP:=Yj ht g1;have cP:=Yj ht g2;refine ⟨#[cy 667,cy 4,.ref cb],by rw [Yg bP,Yg cP,Yb];rfl,trivial,.inl ⟨rfl,fun f cf ff g4 g5 g6 ⟨Oe,pm2,Og,e2⟩=>?_⟩⟩;subst e2;have fb:f≠b:=fun z=>by rw [z,Yb] at g4;cases g4
  rw [Yg fb] at g4
  have Kv:f≠cb:=fun z=>by rw [z,Yb] at g4;cases g4
  rw [Yg Kv] at g4
  have fP:f≠aJ:=fun z=>by rw [z,Yb] at g4;cases g4
  rw [Yg fP] at g4
  have Kw:cf≠b:=fun z=>by rw [z,Yb] at g5;cases g5
  rw [Yg Kw] at g5
  have Bd:cf≠cb:=fun z=>by rw [z,Yb] at g5;cases g5
  rw [Yg Bd] at g5
  have Kz:cf≠aJ:=fun z=>by rw [z,Yb] at g5;cases g5
  rw [Yg Kz] at g5
  refine ⟨few (by simp),fun t g7=>⟨cI (s.heap.objs.size+1) (s.heap.objs.size+1+1) (s.heap.objs.size+1+1+1) how bad lo,⟨uV _,fun z hz=>?_⟩,fun hc=>?_⟩⟩
  ·simp only [Υ,a7,or_false] at hz
   rcases hz with rfl | rfl | rfl
   ·exact ⟨2,rfl,rfl,rfl,rfl⟩
   ·exact ⟨0,rfl,rfl,rfl,rfl⟩
   ·exact ⟨1,rfl,rfl,rfl,rfl⟩
  ·have s7:=Ye.aj g7 (.tup [.ref b,.ref f])
   obtain ⟨r1,r2,r3,r4,r5⟩:=QA (H:=H) (b:=b) (f:=f) (cb:=cb) (cf:=cf) (t:=t) ZN mK cF aA (uV _) (s7 _ _ (by rw [Yg (ω fb),Yg (ω Kw),Yg (ω bP),Yb];rfl)) (s7 _ _ (by rw [Yg (ω Kv),Yg (ω Bd),Yg (ω cP),Yg (ω g3),Yb])) (s7 _ _ (by rw [Yb];rfl)) (s7 _ _ (by rw [Yg (ω g6),Yb])) Yb (s7 _ _ (by rw [Yg (ω fP),Yg (ω Kz),Yb];rfl)) (fun a o h1 h2=>s7 _ _ (by rw [Yg (Yj h2 g4),Yg (Yj h2 g5),Yg h1,Yg (Yj h2 g1),Yg (Yj h2 g2),Yg h1];exact h2)) hc;exact q t b f _ r1 r2 r3 r4 r5
 ·refine ⟨_,ht,trivial,.inr ⟨c1,rfl,fun b fb g1 ⟨Oc,pm1,Od,e1⟩=>?_⟩⟩
  subst e1;have bP:=Yj ht g1;refine ⟨_,(Yg bP).trans ht,trivial,.inr ⟨c2,rfl,fun f ff g4 ⟨Oe,pm2,Og,e2⟩=>?_⟩⟩;subst e2;have fb:f≠b:=fun z=>by rw [z,Yb] at g4;cases g4
  rw [Yg fb] at g4
  refine ⟨few (by simp),fun t g7=>⟨cI (s.heap.objs.size+1) (s.heap.objs.size+1+1) (s.heap.objs.size+1+1+1) how bad lo,⟨uV _,fun z hz=>?_⟩,fun hc=>?_⟩⟩
  ·simp only [Υ,a7,or_false] at hz
   rcases hz with rfl | rfl | rfl
   ·exact ⟨2,rfl,rfl,rfl,rfl⟩
   ·exact ⟨0,rfl,rfl,rfl,rfl⟩
   ·exact ⟨1,rfl,rfl,rfl,rfl⟩
  ·have s7:=Ye.aj g7 (.tup [.ref b,.ref f])
   have kk:∀ (z1 z2:HO) a o,H a=some o->upd (upd H b z1) f z2 a=some o:=fun z1 z2 a o h2=>by rw [Yg (Yj h2 g4),Yg (Yj h2 g1)];exact h2
   obtain ⟨r1,r2,r3,r4,r5⟩:=QA (H:=H) (b:=b) (f:=f) (cb:=c1) (cf:=c2) (t:=t) ZN mK cF aA (uV _) (s7 _ _ (by rw [Yg (ω fb),Yb];rfl)) (s7 _ _ (kk _ _ _ _ k1)) (s7 _ _ (by rw [Yb];rfl)) (s7 _ _ (kk _ _ _ _ k2)) Yb (s7 _ _ (kk _ _ _ _ ht)) (fun a o h1 h2=>s7 _ _ (kk _ _ _ _ h2)) hc;exact q t b f _ r1 r2 r3 r4 r5
section
 variable {src:List (Option Nat)} {te:TE} {σ:St} {H:Hp} {Q:VK}
theorem YeX {ta:TA} {n c m:Nat} (hu:U8 n c m) (hc:0<c) (hc':c<2^29) (hn:n<2^60) (ds:List Β) (ha:∀ R:List V->Hp->Prop,R [.int 0,.int n,.int c] H->ta σ H R) (hl:ds.length=m) (hlen:m<=10000)
  (step:∀ (i:Nat) d H',i<m->ds[i]?=some d->Ye H H'->∀ R:VK,(∀ y aF L,Ye H' aF->bQ H' aF y d L->R y aF)->te (some (.int ((i*c:Nat):Int))::YF src σ) H' R)
  (fin:∀ D H' L,Ye H H'->bQ H H' (.ref D) (.list ds) L->Q (.ref D) H'):dj (none::src) (wX ta) (YE 0) XI te σ H Q:=by
 refine ha _ ⟨0,n,c,rfl,⟨by decide,by decide,by omega,by omega,by omega,by omega⟩,fun D hD=>?_⟩;obtain ⟨m',em,hm⟩:=Yew (n:=n) (c:=c) hc;have:=hu.uniq hm;subst this;rw [em,d6];refine xO (Yev (lo:=0) (c:=c) (n:=m) (P:=fun _=>True)) ds (fun _ _=>trivial) hD (by simpa using hl) (by simpa using hlen) (fun i x d H' hx hd sm R r=>?_) fun _ H' L sm=>fin D H' L sm
 have hi:i<m:=by have:=(Ι.mp hx).1;simpa using this
 rw [Ν,ce hi] at hx
 have e:V.int (0+(i:Int)*c)=x:=Λ hx;rw [ja,<- im] at e
 subst e;exact step i d H' hi hd sm R r
end
def iU (n c:Nat):Nat:=if n=0 then 0 else (n - 1) / c+1
theorem UQ {n c:Nat} (hc:0<c):U8 n c (iU n c):=by
 unfold iU
 split
 ·rename_i h;exact ⟨fun i hi=>absurd hi (by omega),by omega⟩
 ·refine ⟨fun i hi=>?_,?_⟩
  ·have h1:i*c<=(n - 1) / c*c:=Nat.mul_le_mul_right c (by omega)
   have h2:=Nat.div_mul_le_self (n - 1) c;omega
  ·have h1:=Nat.div_add_mod (n - 1) c
   have h2:=jv (n - 1) hc;rw [Nat.add_mul,Nat.mul_comm];omega
theorem Bf {n c:Nat}:iU n c<=n:=by
 unfold iU
 split
 ·exact az _
 ·have:=Nat.div_le_self (n - 1) c;omega
def blk (xs:List Β) (c:Nat):List (List Β):=(ai (iU xs.length c)).map fun i=>xs.take (i*c)++xs.drop (i*c+c)
def Wo:Nat->List Β->Nat->List (List Β)
 | 0,_,_=>[]
 | f+1,xs,c=>if c=0 then [] else blk xs c++Wo f xs (c / 2)
def iV (xs:List Β):List (List Β):=Wo 20 xs xs.length
theorem WX {f c:Nat} {xs:List Β} (h:0<c):Wo (f+1) xs c=blk xs c++Wo f xs (c / 2):=by rw [Wo,if_neg (by omega)]
theorem WY {f:Nat} {xs:List Β}:Wo f xs 0=[]:=by cases f<;>rfl
theorem KC (xs:List Β) (c:Nat):(blk xs c).length=iU xs.length c:=by rw [blk,Ε,cE]
theorem Bg (xs:List Β) (c:Nat):(blk xs c).length<=xs.length:=by rw [KC];exact Bf
theorem KD (xs:List Β):∀ f c,(Wo f xs c).length<=f*xs.length
 | 0,_=>by simp [Wo]
 | f+1,c=>by
  by_cases h:c=0
  ·subst h;rw [WY];simp
  ·rw [WX (by omega),Ζ,Nat.succ_mul]
   have:=KD xs f (c / 2);have:=Bg xs c;omega
theorem Yg4 {ds:List Β} {c i:Nat} {d:List Β} (h:(blk ds c)[i]?=some d):d=ds.take (i*c)++ds.drop (i*c+c):=by
 rw [blk,Ν] at h
 obtain ⟨j,hj,rfl⟩:=ο.mp h;have hi:=(Ι.mp hj).1;rw [cE] at hi
 rw [ce hi] at hj
 cases hj
 rfl
theorem YdV (ds:List Β) (a c:Nat):(c4 (ds.take a++ds.drop c)).depth<=(c4 ds).depth:=by
 rw [aE,aE];have:χ (ds.take a++ds.drop c)<=χ ds:=XV fun d hd=>Xu (by
  rcases η.mp hd with h1 | h1
  ·exact eT h1
  ·exact eW h1)
 omega
inductive fD (K:Κ) (vs:List V) (H:Hp) (Q:VK) (E_:XK):Prop
 | mk (v:V) (ds:List Β) (h0:vs=[v]) (h1:DV H v (.list ds)) (h2:ds.length<=4) (h3:(c4 ds).depth<=5) (h4:∀ v' H' L',Ye H H'->bQ H H' v' (.list ((iV ds).map .list)) L'->Q v' H')
inductive CuV (H:Hp) (ds:List Β) (v:V) (X:Addr) (a:Nat×Nat×List (List Β)) (σ:St) (H':Hp):Prop
 | mk (ws:List V) (M:List Addr) (e:σ=[some v,some (.ref X),some (.int (a.1:Nat))]) (h1:a.1<2^a.2.1) (h2:a.2.1<=20) (h3:a.1<=ds.length) (h4:iV ds=a.2.2++Wo a.2.1 ds a.1) (sm:Ye H H') (hX:H' X=some (.lst ws)) (hl:ws.length+4*a.2.1<=80) (ow:bA H H' ws (a.2.2.map .list) M) (nX:∀ a∈M,a≠X)
theorem Ygr {k:Nat}  (R:g.Raw "cuts" "cuts" yJ ["deeds"]) (Zx:g.Fn k "copied" ["thing"] (Zs 6)) (aA:g.mg "len"=none) (Ze:g.mg "range"=none):g.Fn (k+1) "cuts" ["deeds"] (fD g.K):=by
 refine R.fn V1 (fun vs H Q E h=>by obtain ⟨v,ds,rfl,hv,hdl,hdp,q⟩:=h;rfl) fun f_ cdv A outer s H vs Q E hr h=>?_
 obtain ⟨v,ds,rfl,hv,hdl,hdp,q⟩:=h;refine ⟨_,(@Yd _ _ _ _ _ (@Yr _ _ (1) _ _ _ _ V1.nd rfl (.inl rfl) (@YU _ _ _ _ Yc) (by rfl) (by first | exact .inl rfl | exact .inr rfl | assumption)) (@Yd _ _ _ _ _ (@Yr _ _ (2) _ _ _ _ V1.nd rfl (.inr rfl) (@YG _ _ _ _ _ _ _ _ _ _ aA YB (@Ya _ _ _ _ _ (pv 0) Yc (by rfl)) (by decide +kernel) (by rfl) (by rfl) (by decide) (by decide) (by rfl) (by rfl)) (by rfl) (by first | exact .inl rfl | exact .inr rfl | assumption)) (@Yd _ _ _ _ _ (@Wg _ _ _ _ _ _ ae (@Yq _ _ _ _ _ _ _ _ Us (pv 2) Yh (Yo _)) (@Yd _ _ _ _ _ (@Y0 _ _ _ _ (@Xw _ _ _ _ _ _ _ _ _ _ _ _ bb F.slot_list_extend F.type_list_extend VC (pv 1) (@Ya _ _ _ _ _ (@Xj _ _ _ _ _ _ _ ([none,some 0,some 2]) ((["begin","deeds","length"]:List Str)) _ (YE 0) _ _ (.own (.cap (i:=0) rfl rfl (by first | exact .inl rfl | exact .inr rfl) (.cap (i:=2) rfl rfl (by first | exact .inl rfl | exact .inr rfl) .nil))) rfl (@Qu _ _ _ _ _ _ _ _ rfl Ze (@Ya _ _ _ _ _ Yh (@Ya _ _ _ _ _ (@YG _ _ _ _ _ _ _ _ _ _ aA YB (@Ya _ _ _ _ _ (pv 0) Yc (by rfl)) (by decide +kernel) (by rfl) (by rfl) (by decide) (by decide) (by rfl) (by rfl)) (@Ya _ _ _ _ _ (pv 2) Yc (by rfl)) (by rfl)) (by rfl)) (by rfl) (by rfl)) (fun cl C s₀ H₀ fp pn=>(@Yu _ _ (0) _ (show aI (["begin","deeds","length"]:List Str) by decide +kernel) rfl (.inl rfl) (.inr rfl))) (fun cl C s₀ H₀ fp pn=>YV) (fun cl C s₀ H₀ fp pn=>(@Ys _ _ _ _ _ _ _ _ _ _ _ _ Zx hr (@Ya _ _ _ _ _ (@Yn _ _ _ _ _ _ _ _ XG (@Y8 _ _ _ _ _ _ _ _ _ _ (Wj (K:=g.K)) (pv 1) Xs (@Xf _ _ _ (pv 0))) (@Y8 _ _ _ _ _ _ _ _ _ _ (Wj (K:=g.K)) (pv 1) (@Xf _ _ _ (@Yn _ _ _ _ _ _ _ _ YT (pv 0) (pv 2))) Xs)) Yc (by rfl)) (by omega) (by rfl) (by rfl) (by decide) (by rfl) (by rfl))) (by intro x hx;simp at hx;first | (subst hx;exact .inl rfl) | (rcases hx with rfl | rfl<;>exact .inl rfl) | (rcases hx with rfl | rfl | rfl<;>exact .inl rfl) | (rcases hx with rfl | rfl | rfl | rfl<;>exact .inl rfl) | (rcases hx with rfl | rfl | rfl | rfl | rfl<;>exact .inl rfl)) (by rfl) (by decide) (by decide +kernel) (by intro _;rfl)) Yc (by rfl)) (by rfl) (by rfl) (by rfl) (by rfl) (by rfl)) (by rfl)) (@Yf _ _ _ (@Yr _ _ (2) _ _ _ _ V1.nd rfl (.inr rfl) (@Yn _ _ _ _ _ _ _ _ Xt (pv 2) Yh) (by rfl) (by first | exact .inl rfl | exact .inr rfl | assumption))))) (@Yf _ _ _ (@Yl _ _ _ _ (pv 1)))))),?_⟩;obtain ⟨b,us,rfl,hb,_,hds⟩:=hv.bD;have e1:=hds.length;refine Yp fun R rr=>?_
 walk_at "rd";refine ⟨few (by decide),fun X gX=>rr _ _ (Yp fun R rr=>?_)⟩;have sX:=Ye.aj gX (.lst []);walk_at "rd";refine ⟨_,.inl (ao.of (sX _ _ hb)),rr _ _ (Yp fun R rr=>?_)⟩;rw [e1];refine Wi (α:=Nat×Nat×List (List Β)) (CuV H ds (.ref b) X) (fun a=>decide (0<a.1)) (fun a=>a.1) (ds.length,20,[]) ⟨[],[],rfl,(by omega:ds.length<2^20),Μ 20,Μ _,rfl,sX,Yb,(by show 0+4*20<=80;decide),⟨.nil,.nil,fun a h=>by cases h⟩,fun a h=>by cases h⟩ ?_ ?_ ?_
 ·rintro ⟨c,f,acc⟩ σ H' h R r
  have h':=r H' h;obtain ⟨ws,M,rfl,_⟩:=h;walk_at "rd";rw [show decide (0<c)=decide ((0:Int)<(c:Int)) from decide_eq_decide.mpr (by omega)] at h'
  exact h'
 ·rintro ⟨c,f,acc⟩ σ H1 ⟨ws,M,rfl,h1,h2,h3,h4,sm,hX,hl,ow,nX⟩ hc
  have hc0:0<c:=of_decide_eq_true hc;clear hc;have hf:f≠0:=fun z=>by subst z;simp at h1;omega
  obtain ⟨f,rfl⟩:∃ f',f=f'+1:=⟨f - 1,by omega⟩;dsimp only at h1 h2 h3 h4 hX hl ow ⊢;rw [WX hc0] at h4
  rw [Nat.pow_succ] at h1
  have hbl:=Bg ds c;refine Yp fun R rr=>?_
  walk_at "rd";refine ⟨.inl ⟨rfl,_,ao.of hX⟩,?_⟩;refine YeX (n:=ds.length) (c:=c) (m:=iU ds.length c) (UQ hc0) hc0 (by omega) (by omega) ((blk ds c).map .list) (fun R r=>?_) (by rw [Ε,KC]) (by have:=Bf (n:=ds.length) (c:=c);omega) ?_ ?_
  ·walk_at "rd"
   refine ⟨_,.inl (ao.of (sm _ _ hb)),?_⟩;rw [e1];exact r
  ·intro i d H' hi hdi s2 R r
   rw [Ν] at hdi
   obtain ⟨l,hli,rfl⟩:=ο.mp hdi;have hl':=Yg4 hli;subst hl';have hb':=(sm.trans s2) _ _ hb;walk_at "rd";refine ⟨_,ao.of hb',fun p hp=>?_⟩;rw [Wh] at *
   have u1:=Ye.aj hp (.lst (us.take (i*c)));refine ⟨_,ao.of (u1 _ _ hb'),fun p1 hp1=>?_⟩;rw [show ((i*c:Nat):Int)+(c:Int)=((i*c+c:Nat):Int) from (cK _ _).symm,VW];have u2:=Ye.aj hp1 (.lst (us.drop (i*c+c)));refine ⟨_,u2 _ _ Yb,_,Yb,few (by rw [ι,a8];omega),fun p2 hp2=>?_⟩;have u3:=Ye.aj hp2 (.lst (us.take (i*c)++us.drop (i*c+c)));have jV:=(u1.trans u2).trans u3;have dd:aV H (us.take (i*c)++us.drop (i*c+c)) (ds.take (i*c)++ds.drop (i*c+c)):=(VM hds _).append (zF hds _);exact ⟨.ref p2,_,rfl,.lst Yb (by rw [Ζ,ι,a8];omega) (dd.keep ((sm.trans s2).trans jV)),by have:=YdV ds (i*c) (i*c+c);omega,fun v' aF gQ s' ho=>r v' aF gQ (jV.trans s') ⟨ho.vl,ho.nd,fun a ha=>jV.free (ho.new a ha)⟩⟩
  ·intro E H3 M' s3 ho'
   obtain ⟨ys,M1,_,g1,g2,g3,g4,g5⟩:=ho'.inv;obtain ⟨o1,o2⟩:=ow.ext (zs':=ws++ys) nX sm s3 g3 hX;have hyl:=g3.vl.length;rw [Ε] at hyl
   refine ⟨X,E,ws,ys,rfl,rfl,s3 _ _ hX,g1,few (by omega),rr _ _ ?_⟩;walk_at "rd";refine ⟨Xm (by decide) (by decide),?_⟩;rw [show ((c:Nat):Int) / 2=((c / 2:Nat):Int) by omega];refine ⟨(c / 2,f,acc++blk ds c),⟨ws++ys,M++M1,rfl,(by omega:c / 2<2^f),(by omega:f<=20),(by omega:c / 2<=ds.length),?_,.aP gX (sm.trans s3) _,Yb,?_,?_,o2⟩,(by omega:c / 2<c)⟩
   ·show iV ds=(acc++blk ds c)++Wo f ds (c / 2)
    rw [h4,ca]
   ·show (ws++ys).length+4*f<=80
    rw [Ζ];omega
   ·show bA H _ (ws++ys) ((acc++blk ds c).map .list) (M++M1)
    rw [ξ];exact o1
 ·rintro ⟨c,f,acc⟩ σ H1 ⟨ws,M,rfl,h1,h2,h3,h4,sm,hX,hl,ow,nX⟩ hc
  have hc:c=0:=by have:=of_decide_eq_false hc;omega
  subst hc;refine rr _ _ ?_;walk_at "rd";rw [WY,ay] at h4
  dsimp only at h4 ow hl;rw [h4] at q
  refine q _ H1 _ sm ⟨.lst hX (by omega) ow.vl,aS.mpr ⟨fun h=>nX _ h rfl,ow.nd⟩,fun a ha=>?_⟩;rcases Υ.mp ha with e | ha
  ·subst e;exact gX
  ·exact ow.new a ha
structure bW (lo:Int) (p:Sh) (ds:List Β):Prop where
 n:ds.length<=4
 g:∀ d∈ds,gd lo p d
 hp:p ≠ .rw
 lv:aQ p<=2
theorem bW.gd {lo:Int} {p:Sh} {ds:List Β} (h:bW lo p ds):gd lo (.my p) (.list ds):=⟨ds,h.n,h.g,rfl⟩
theorem bW.dep {lo:Int} {p:Sh} {ds:List Β} (h:bW lo p ds):(c4 ds).depth<=3:=by
 have:=Vr h.gd;have:=h.lv;simp only [aQ] at *;omega
def dN (lo:Int) (p:Sh) (ds:List Β):Nat:=ds.length+(ds.map (sz lo p)).sum
def nxs (lo:Int) (p:Sh) (ds:List Β):List (List Β):=iV ds++(wo ds++wi ds (ds.map (st lo p)))
theorem KH (lo:Int) (p:Sh) (xs:List Β):∀ (f c:Nat),∀ l∈Wo f xs c,uO lo p xs l
 | 0,c,l,h=>by cases h
 | f+1,c,l,h=>by
  by_cases h0:c=0
  ·subst h0;rw [WY] at h;cases h
  ·rw [WX (by omega)] at h
   rcases η.mp h with h | h
   ·obtain ⟨i,hi,rfl⟩:=aw.mp h
    rw [b8] at hi
    exact Ka lo p xs (i*c) c ((UQ (by omega)).1 i hi) (by omega)
   ·exact KH lo p xs f _ l h
theorem bW.Bh {lo:Int} {p:Sh} {ds l:List Β} (ok:bW lo p ds) (h:l∈nxs lo p ds):uO lo p ds l:=by
 rcases η.mp h with h | h
 ·exact KH lo p ds _ _ l h
 ·exact Kc ok.g (fun e he x hx=>Ah (ok.g e he) hx) h
theorem bW.nx {lo:Int} {p:Sh} {ds l:List Β} (ok:bW lo p ds) (h:l∈nxs lo p ds):bW lo p l:=⟨ah (ok.Bh h).len ok.n,(ok.Bh h).ok ok.g,ok.hp,ok.lv⟩
theorem KJ {α:Type} {q:α->Bool}:∀ {l:List α} {i:Nat} {x:α},(∀ y∈l.take i,q y=false)->l[i]?=some x->q x=true->l.find? q=some x
 | a::l,0,x,_,e,h=>by cases Λ e;rw [bn,h]
 | a::l,i+1,x,n,e,h=>by
  rw [bn,n a (by simp)];exact KJ (fun y hy=>n y (by simp [hy])) e h
theorem Ygs {α:Type} {q:α->Bool} {l:List α} (h:∀ y∈l,q y=false):l.find? q=none:=List.find?_eq_none.mpr fun x hx=>by rw [h x hx];decide
def XR (g:Gx) (H:Hp) (f:Addr) (how bad lo:Int) (p:Sh):Prop:=∃ fd sp,uT g 30 f fd ["deeds"] sp/\H f=some (bK f fd) /\
 ∀ (H1:Hp) (v:V) (ds:List Β) (Q:VK),NL H H1->DV H1 v (.list ds)->bW lo p ds->(∀ H',Ye H1 H'->Q (.bl !brk how bad lo ds) H')->H1 f=some (bK f fd)/\sp [v] H1 Q E0
theorem XR.nl {g:Gx} {H H':Hp} {f:Addr} {how bad lo:Int} {p:Sh} (h:XR g H f how bad lo p) (n:NL H H'):XR g H' f how bad lo p:=by
 obtain ⟨fd,sp,h1,h2,h3⟩:=h;exact ⟨fd,sp,h1,n.2 _ _ h2,fun H1 v ds Q n1=>h3 H1 v ds Q (n.trans n1)⟩
structure Ops (g:Gx) (H:Hp) (b1 f1 b2 f2:Addr) (how bad bf lo:Int):Prop where
 b1:Wq g H b1
 f1:XW g H f1 4 bf lo
 b2:Wq g H b2
 f2:XW g H f2 how bad lo
 h4:how<4
theorem Ops.nl {g:Gx} {H H':Hp} {b1 f1 b2 f2:Addr} {how bad bf lo:Int} (h:Ops g H b1 f1 b2 f2 how bad bf lo) (n:NL H H'):Ops g H' b1 f1 b2 f2 how bad bf lo:=⟨h.b1.nl n,h.f1.nl n,h.b2.nl n,h.f2.nl n,h.h4⟩
def YeY (g:Gx) (fv vs:List V) (H:Hp) (Q:VK):Prop:=∃ (b1 f1 b2 f2:Addr) (D:V) (how bad bf lo:Int) (p:Sh) (ds:List Β),fv=[.ref f2,.ref b2,.ref f1,.ref b1]/\vs=[D]/\Ops g H b1 f1 b2 f2 how bad bf lo /\
 DV H D (.list ds)/\bW lo p ds/\∀ H',Ye H H'->Q (.bl !brk how bad lo ds) H'
theorem Z3i {k:Nat}   {f_ c_:Addr} {pm ctv:Α} {l:Yz} (fG:g.Fn k "apart" ["begin","done","model_begin","model_done","deeds"] (gU g)) (hl:l.map (·.1)=(["model_done","model_begin","done","begin"]:List Str)) (hnd:l.as.Nodup):aY g.P g.w g.K g.mg g.base bV (k+1) f_ (ZK l.cl c_ pm ctv) ["deeds"] (fun vs H Q _=>W8 H f_ c_ (ZK l.cl c_ pm ctv) Zv l/\(YeY g) l.vs vs (off H l.as) fun v H'=>(∀ c∈l.as,H' c=none)->Q v (on H' H l.as)):=by
 refine YgT (N:=["deeds","model_done","model_begin","done","begin"]) (by rw [hl];exact Z3c) hnd (fun vs H Q h=>by obtain ⟨b1,f1,b2,f2,D,how,bad,bf,lo,p,ds,eZ,rfl,op,hD,ok,q⟩:=h;rfl) fun A outer s H vs Q hr h=>?_
 obtain ⟨b1,f1,b2,f2,D,how,bad,bf,lo,p,ds,eZ,rfl,op,hD,ok,q⟩:=h;refine ⟨_,(@Xe _ _ _ _ _ _ _ _ Ut (@Ys _ _ _ _ _ _ _ _ _ _ _ _ fG hr (@Ya _ _ _ _ _ (pv 4) (@Ya _ _ _ _ _ (pv 3) (@Ya _ _ _ _ _ (pv 2) (@Ya _ _ _ _ _ (pv 1) (@Ya _ _ _ _ _ (pv 0) Yc (by rfl)) (by rfl)) (by rfl)) (by rfl)) (by rfl)) (by omega) (by rfl) (by rfl) (by decide) (by rfl) (by rfl)) XF (Yo _)),?_⟩;rw [eZ];walk_at "rd";refine ⟨b1,f1,b2,f2,D,how,bad,bf,lo,p,ds,rfl,op.b1,op.f1,op.b2,op.f2,op.h4,hD,ok.g,ok.hp,by have:=ok.lv;omega,ok.n,fun v H' s h=>?_⟩;have:=q H' s;rcases h with ⟨rfl,e⟩ | ⟨⟨i,rfl⟩,e⟩
 ·rw [e] at this;exact this
 ·rw [e] at this;exact this
inductive jW (g:Gx) (vs:List V) (H:Hp) (Q:VK) (E_:XK):Prop
 | mk (f:Addr) (v:V) (how bad lo:Int) (p:Sh) (ds:List Β) (h0:vs=[.ref f,v]) (h1:XR g H f how bad lo p) (h2:DV H v (.list ds)) (h3:bW lo p ds) (h4:∀ H',Ye H H'->Q (.bl !brk how bad lo ds) H')
theorem YeZ {k:Nat}  (R:g.Raw "holds" "holds" Qi ["judge","value"]) (Zx:g.Fn k "copied" ["thing"] (Zs 6)) (hkc:30<=k):g.Fn (k+1) "holds" ["judge","value"] (jW g):=by
 refine R.fn YeM (fun vs H Q E h=>by obtain ⟨f,v,how,bad,lo,p,ds,rfl,⟨fd,s1,ok,hf,hj⟩,hv,hl,q⟩:=h;rfl) fun f_ cdv A outer s H vs Q E hr h=>?_
 obtain ⟨f,v,how,bad,lo,p,ds,rfl,⟨fd,s1,ok,hf,hj⟩,hv,hl,q⟩:=h;refine ⟨_,(@Yf _ _ _ (@Yl _ _ _ _ (@Xe _ _ _ _ _ _ _ _ Tt (@Vo _ (g) _ (30) _ _ _ _ _ _ 0 hr (@Ya _ _ _ _ _ (@Ys _ _ _ _ _ _ _ _ _ _ _ _ Zx hr (@Ya _ _ _ _ _ (pv 1) Yc (by rfl)) (by omega) (by rfl) (by rfl) (by decide) (by rfl) (by rfl)) Yc (by rfl)) (by omega) (by rfl) (by rfl) (by first | exact .inl rfl | exact .inr (.inl rfl) | exact .inr (.inr rfl)) (by decide) (by decide) (by rfl) (by rfl)) WN (Yo _)))),?_⟩;walk_at "rd";refine ⟨f,fd,_,s1,rfl,ok.1,ok.2,hf,?_⟩;walk_at "rd";refine ⟨v,_,rfl,hv,by have:=hl.dep;omega,fun v' H' L' sm ow=>?_⟩;refine hj H' v' ds _ (WB sm) ⟨_,ow.vl⟩ hl fun H2 s2=>⟨_,rfl,?_⟩
 rw [show ((!brk how bad lo ds)==true) = !brk how bad lo ds by cases brk how bad lo ds<;>rfl];exact q H2 (sm.trans s2)
inductive uW (g:Gx) (vs:List V) (H:Hp) (Q:VK) (E_:XK):Prop
 | mk (f L:Addr) (how bad lo:Int) (p:Sh) (ys:List V) (Ls:List (List Β)) (h0:vs=[.ref f,.ref L]) (h1:XR g H f how bad lo p) (h2:H L=some (.lst ys)) (h3:aV H ys (Ls.map .list)) (h4:(∀ l∈Ls,bW lo p l)) (h5:(∀ H',Ye H H'->Ls.find? (brk how bad lo)=none->Q .non H')) (h6:∀ (i:Nat) y l H',Ye H H'->Ls.find? (brk how bad lo)=some l->ys[i]?=some y->Ls[i]?=some l->Q y H')
theorem Z3E {k:Nat}  (R:g.Raw "first_breach" "first_breach" yH ["judge","values"]) (vA:g.Fn k "holds" ["judge","value"] (jW g)):g.Fn (k+1) "first_breach" ["judge","values"] (uW g):=by
 refine R.fn Jg (fun vs H Q E h=>by obtain ⟨f,L,how,bad,lo,p,ys,Ls,rfl,hj,hL,hy,ok,q0,q1⟩:=h;rfl) fun f_ cdv A outer s H vs Q E hr h=>?_
 obtain ⟨f,L,how,bad,lo,p,ys,Ls,rfl,hj,hL,hy,ok,q0,q1⟩:=h;refine ⟨_,(@Yd _ _ _ _ _ (@Xo _ _ _ _ _ _ _ _ ae rfl (@YW _ _ _ _ (pv 1)) (@Yu _ _ (2) _ Jg.nd rfl (.inl rfl) (by first | exact .inl rfl | exact .inr rfl | assumption)) (@Yf _ _ _ (@Yx _ _ _ _ _ _ _ _ (@Wr _ _ _ _ (@YY _ _ _ (@Ys _ _ _ _ _ _ _ _ _ _ _ _ vA hr (@Ya _ _ _ _ _ (pv 0) (@Ya _ _ _ _ _ (pv 2) Yc (by rfl)) (by rfl)) (by omega) (by rfl) (by rfl) (by decide) (by rfl) (by rfl)) (by intro _;rfl))) (@Yf _ _ _ (@Yl _ _ _ _ (pv 2))) Ym)) (by intro _;rfl)) (@Yf _ _ _ (@Yl _ _ _ _ XF))),?_⟩;have hlen:=hy.length;rw [Ε] at hlen
 refine Yp fun R rr=>?_
 refine Tj (K:=g.K) (xs:=ys) (fun c i σ H'=>c=L/\(∃ o,σ=[some (.ref f),some (.ref L),o])/\Ye H H'/\∀ l∈Ls.take i,brk how bad lo l=false) (fun R r=>by walk_at "rd";exact r L _ ⟨rfl,⟨_,rfl⟩,.refl _,fun l h=>by cases h⟩) (fun c i σ H' _ ⟨e,_,s,_⟩=>by subst e;exact ao.of (s _ _ hL)) ?_ ?_
 ·rintro c i x σ H' hx ⟨rfl,⟨o,rfl⟩,sm,hn⟩
  have hi:=(Ι.mp hx).1;have hm:Ls[i]?=some (Ls[i]'(by omega)):=Χ _;generalize Ls[i]'(by omega)=l at hm;have o1:=ok l (Τ hm);walk_at "rd";refine ⟨f,x,how,bad,lo,p,l,rfl,hj.nl (WB sm),(XQ hy hx (by rw [Ν,hm];rfl)).keep sm,o1,fun H1 s1=>?_⟩
  cases h:brk how bad lo l with
  | false =>
   refine ⟨_,rfl,Y5 (by decide) ⟨sm.trans s1,fun l' hl'=>?_⟩⟩;rw [Xb hm] at hl'
   rcases η.mp hl' with hl' | hl'
   ·exact hn l' hl'
   ·rw [ς.mp hl'];exact h
  | true=>exact ⟨_,rfl,Xx rfl (q1 i x l H1 (sm.trans s1) (KJ hn hm h) hx hm)⟩
 ·rintro c σ H' ⟨rfl,⟨o,rfl⟩,sm,hn⟩
  refine rr _ _ ?_;walk_at "rd";rw [hlen,c9] at hn
  exact q0 H' sm (Ygs hn)
def KN (g:Gx) (H:Hp) (f:Addr) (lo:Int) (p:Sh):Prop:=∃ fd sp,uT g 60 f fd ["breach"] sp/\H f=some (bK f fd) /\
 ∀ (H1:Hp) (v:V) (ds:List Β) (Q:VK),Ye H H1->DV H1 v (.list ds)->bW lo p ds->(∀ r H' L',Ye H1 H'->bQ H1 H' r (.list ((nxs lo p ds).map .list)) L'->Q r H')->H1 f=some (bK f fd)/\sp [v] H1 Q E0
structure Way (how bad lo:Int) (p:Sh) (ds:List Β) (ls:List (List Β)):Prop where
 hd:ls[0]?=some ds
 nx:∀ k l,ls[k]?=some l->(nxs lo p l).find? (brk how bad lo)=ls[k+1]?
 ok:∀ l∈ls,bW lo p l
 len:ls.length<=1000
theorem V4 {H:Hp}:∀ {vs:List V} {ds:List Β} {L:List Addr},aW H vs ds L->∀ {i:Nat} {v:V} {d:Β},vs[i]?=some v->ds[i]?=some d->∃ L',DL H v d L'/\L'.Sublist L
 | _,_,_,.nil,i,v,d,e,_=>by cases e
 | _,_,_,.cons h t,0,v,d,e1,e2=>by cases Λ e1;cases Λ e2;exact ⟨_,h,List.sublist_append_left _ _⟩
 | _,_,_,.cons h t,i+1,v,d,e1,e2=>by
  obtain ⟨L',h1,h2⟩:=V4 t (i:=i) e1 e2;exact ⟨L',h1,h2.trans (List.sublist_append_right _ _)⟩
theorem Ye0 {H0 H:Hp} {vs:List V} {ds:List Β} {L:List Addr} (h:bA H0 H vs ds L) {i:Nat} {v:V} {d:Β} (e1:vs[i]?=some v) (e2:ds[i]?=some d):∃ L',bQ H0 H v d L':=by
 obtain ⟨L',h1,h2⟩:=V4 h.vl e1 e2;exact ⟨L',h1,h.nd.sublist h2,fun a ha=>h.new a (h2.subset ha)⟩
theorem YdX {H0 H1 H2:Hp} {vs:List V} {ds:List Β} {L L':List Addr} {y:V} {d:Β} (h:bA H0 H1 vs ds L) (s0:Ye H0 H1) (s:Ye H1 H2) (o:bQ H1 H2 y d L'):bA H0 H2 (vs++[y]) (ds++[d]) (L++L'):=by
 refine ⟨(h.vl.keep s).append o.vl.one,cz.mpr ⟨h.nd,o.nd,fun a ha b hb e=>?_⟩,fun a ha=>?_⟩
 ·subst e
  obtain ⟨vs,e1,_⟩:=h.vl.mem a ha;rw [o.new a hb] at e1
  cases e1
 ·rcases η.mp ha with ha | ha
  ·exact h.new a ha
  ·exact s0.free (o.new a ha)
theorem Ye1 {H0 H:Hp} {vs:List V} {ds:List Β} {L:List Addr} {B:Addr} {zs zs':List V} (h:bA H0 H vs ds L) (hB:H B=some (.lst zs)) (n:∀ a∈L,a≠B):bA H0 (upd H B (.lst zs')) vs ds L:=⟨h.vl.bO (.iy hB) fun a ha vs e=>by rw [Yg (n a ha)];exact e,h.nd,h.new⟩
theorem YdY {H0 H H':Hp} {vs:List V} {ds:List Β} {L:List Addr} (h:bA H0 H vs ds L) (s:Ye H H'):bA H0 H' vs ds L:=⟨h.vl.keep s,h.nd,h.new⟩
inductive jX (g:Gx) (vs:List V) (H:Hp) (Q:VK) (E_:XK):Prop
 | mk (f fn:Addr) (v:V) (how bad lo:Int) (p:Sh) (ds:List Β) (h0:vs=[.ref f,v,.ref fn]) (h1:XR g H f how bad lo p) (h2:KN g H fn lo p) (h3:DV H v (.list ds)) (h4:bW lo p ds) (h5:dN lo p ds<=900) (h6:brk how bad lo ds=true) (h7:∀ B ls H' L',Ye H H'->bQ H H' (.ref B) (.list (ls.map .list)) L'->Way how bad lo p ds ls->Q (.ref B) H')
inductive SbV (how bad lo:Int) (p:Sh) (H:Hp) (ds:List Β) (f fn B:Addr) (v0:V) (a:Option (List Β)) (σ:St) (H':Hp):Prop
 | mk (ls:List (List Β)) (ys:List V) (v:V) (M:List Addr) (e:σ=[some (.ref f),some v0,some (.ref fn),some (.ref B),some v]) (sm:Ye H H') (hB:H' B=some (.lst ys)) (no:a=none->v = .non) (ow:bA H H' (ys++if a.isSome then [v] else []) ((ls++a.toList).map .list) M) (nB:∀ x∈M,x≠B) (yl:ys.length=ls.length) (h0:(ls++a.toList)[0]?=some ds) (nx:∀ k l,ls[k]?=some l->(nxs lo p l).find? (brk how bad lo)=(ls++a.toList)[k+1]?) (ok:∀ l∈ls++a.toList,bW lo p l) (sz:∀ l,a=some l->dN lo p l+ls.length<=dN lo p ds) (ll:ls.length<=950)
theorem YaN {k:Nat}  (R:g.Raw "shrunk_by" "shrunk_by" yI ["judge","value","values_next"]) (Zx:g.Fn k "copied" ["thing"] (Zs 6)) (KQ:g.Fn k "first_breach" ["judge","values"] (uW g)) (hkc:60<=k):g.Fn (k+1) "shrunk_by" ["judge","value","values_next"] (jX g):=by
 refine R.fn tL (fun vs H Q E h=>by obtain ⟨f,fn,v,how,bad,lo,p,ds,rfl,hj,hn,hv,ok,hz,hb,q⟩:=h;rfl) fun f_ cdv A outer s H vs Q E hr h=>?_
 obtain ⟨f,fn,v,how,bad,lo,p,ds,rfl,hj,hn,hv,ok,hz,hb,q⟩:=h;refine ⟨_,(@Yd _ _ _ _ _ (@Yr _ _ (3) _ _ _ _ tL.nd rfl (.inl rfl) (@YU _ _ _ _ Yc) (by rfl) (by first | exact .inl rfl | exact .inr rfl | assumption)) (@Yd _ _ _ _ _ (@Yr _ _ (4) _ _ _ _ tL.nd rfl (.inl rfl) (@Ys _ _ _ _ _ _ _ _ _ _ _ _ KQ hr (@Ya _ _ _ _ _ (pv 0) (@Ya _ _ _ _ _ (@YU _ _ _ _ (@Ya _ _ _ _ _ (@Ys _ _ _ _ _ _ _ _ _ _ _ _ Zx hr (@Ya _ _ _ _ _ (pv 1) Yc (by rfl)) (by omega) (by rfl) (by rfl) (by decide) (by rfl) (by rfl)) Yc (by rfl))) Yc (Yeq _ _ _ _)) (by rfl)) (by omega) (by rfl) (by rfl) (by decide) (by rfl) (by rfl)) (by rfl) (by first | exact .inl rfl | exact .inr rfl | assumption)) (@Yd _ _ _ _ _ (@Yx _ _ _ _ _ _ _ _ (@Yq _ _ _ _ _ _ _ _ Ut (pv 4) XF (Yo _)) (@Yf _ _ _ Yy) Ym) (@Yd _ _ _ _ _ (@Wg _ _ _ _ _ _ ae (@Yq _ _ _ _ _ _ _ _ VR (pv 4) XF (Yo _)) (@Yd _ _ _ _ _ (@Y0 _ _ _ _ (@Xw _ _ _ _ _ _ _ _ _ _ _ _ bb bc bj Y6 (pv 3) (@Ya _ _ _ _ _ (pv 4) Yc (by rfl)) (by rfl) (by rfl) (by rfl) (by rfl) (by rfl)) (by rfl)) (@Yf _ _ _ (@Yr _ _ (4) _ _ _ _ tL.nd rfl (.inl rfl) (@Ys _ _ _ _ _ _ _ _ _ _ _ _ KQ hr (@Ya _ _ _ _ _ (pv 0) (@Ya _ _ _ _ _ (@Vo _ (g) _ (60) _ _ _ _ _ _ 2 hr (@Ya _ _ _ _ _ (pv 4) Yc (by rfl)) (by omega) (by rfl) (by rfl) (by first | exact .inl rfl | exact .inr (.inl rfl) | exact .inr (.inr rfl)) (by decide) (by decide) (by rfl) (by rfl)) Yc (by rfl)) (by rfl)) (by omega) (by rfl) (by rfl) (by decide) (by rfl) (by rfl)) (by rfl) (by first | exact .inl rfl | exact .inr rfl | assumption))))) (@Yf _ _ _ (@Yl _ _ _ _ (pv 3))))))),?_⟩;refine Yp fun R rr=>?_
 walk_at "rd";refine ⟨few (by decide),fun B gB=>rr _ _ (Yp fun R rr=>?_)⟩;have sB:=Ye.aj gB (.lst []);walk_at "rd";refine ⟨v,_,rfl,hv.keep sB,by have:=ok.dep;omega,fun v1 H1 L1 s1 iW=>⟨few (by decide),fun L gL=>?_⟩⟩;have s2:=Ye.aj gL (.lst [v1]);have sA:=(sB.trans s1).trans s2;refine ⟨f,L,how,bad,lo,p,[v1],[ds],rfl,hj.nl (WB sA),Yb,.cons (DV.keep ⟨_,iW.vl⟩ s2) .nil,(fun l hl=>by rw [ς.mp hl];exact ok),fun H2 s3 e=>?_,fun i y l H2 s3 e e1 e2=>rr _ _ ?_⟩
 ·rw [bn,hb] at e;cases e
 have hi:i=0:=by
  have:=(Ι.mp e1).1;simpa using this
 subst hi
 cases Λ e1
 cases Λ e2
 have ig:bQ H H2 v1 (.list ds) L1:=⟨iW.vl.keep (s2.trans s3),iW.nd,fun a ha=>sB.free (iW.new a ha)⟩;have nB:∀ a∈L1,a≠B:=fun a ha z=>by have:=iW.new a ha;rw [z,Yb] at this;cases this
 obtain ⟨D1,cg,rfl,_,_,_⟩:=DV.bD ⟨_,ig.vl⟩;refine Yp fun R rr=>?_
 walk_at "rd";refine rr _ _ (Yp fun R rr=>?_);have hB2:H2 B=some (.lst []):=s3 _ _ (s2 _ _ (s1 _ _ Yb));refine Wi (α:=Option (List Β)) (SbV how bad lo p H ds f fn B v) (fun a=>a.isSome) (fun a=>match a with | none=>0 | some l=>dN lo p l+1) (some ds) ⟨[],[],.ref D1,L1,rfl,sA.trans s3,hB2,(fun z=>by cases z),⟨ig.vl.one,ig.nd,ig.new⟩,nB,rfl,rfl,(fun k l h=>by cases h),(fun l hl=>by rw [ς.mp hl];exact ok),(fun l z=>by cases z;exact Μ _),az _⟩ ?_ ?_ ?_
 ·rintro o σ H' h R r
  have h':=r H' h;obtain ⟨ls,ys,v,M,rfl,sm,hB,no,ow,_,yl,_⟩:=h;walk_at "rd"
  cases o with
  | none=>cases no rfl;exact h'
  | some l =>
   have hg:(ys++[v])[ys.length]?=some v:=by simp
   obtain ⟨Lv,hv',_⟩:=V4 ow.vl hg (d := .list l) (by rw [yl];simp);obtain ⟨D2,bN,rfl,_,_,_⟩:=DV.bD ⟨_,hv'⟩;exact h'
 ·rintro o σ H' ⟨ls,ys,v,M,rfl,sm,hB,no,ow,nM,yl,h0,nx,mL,sz,ll⟩ ho
  cases o with
  | none=>cases ho
  | some l =>
   have uX:=mL l (by simp);have szl:=sz l rfl;obtain ⟨fd,sp,KR,hfn,hnx⟩:=hn;refine Yp fun R rr=>?_
   walk_at "rd";refine ⟨.inl ⟨rfl,_,ao.of hB⟩,_,hB,few (by omega),rr _ _ ?_⟩;have jY:Ye H (upd H' B (.lst (ys++[v]))) := .aP gB sm _;have uY:bA H (upd H' B (.lst (ys++[v]))) (ys++[v]) ((ls++[l]).map .list) M:=Ye1 ow hB nM;have hBG:upd H' B (.lst (ys++[v])) B=some (.lst (ys++[v])):=Yb;generalize upd H' B (.lst (ys++[v]))=G at jY uY hBG;have hg:(ys++[v])[ys.length]?=some v:=by simp
   obtain ⟨Lv,hv',_⟩:=V4 uY.vl hg (d := .list l) (by rw [yl];simp);walk_at "rd";refine ⟨fn,fd,_,sp,rfl,KR.1,KR.2,jY _ _ hfn,?_⟩;walk_at "rd";refine hnx G v l _ jY ⟨_,hv'⟩ uX fun r H4 L4 s4 KY=>?_
   obtain ⟨D4,zs,rfl,Bj,_,_⟩:=DV.bD ⟨_,KY.vl⟩;obtain ⟨ys4,L5,_,Bk,_,uZ,_,_⟩:=KY.inv;rw [Bj] at Bk
   cases HO.lst.inj (Λ Bk)
   have KZ:=s4 _ _ hBG;refine ⟨f,D4,how,bad,lo,p,zs,nxs lo p l,rfl,hj.nl (WB (jY.trans s4)),Bj,⟨_,uZ.vl⟩,(fun l' h=>uX.nx h),fun H5 s5 e5=>?_,fun i y l' H5 s5 e5 e6 e7=>?_⟩
   ·refine ⟨none,⟨ls++[l],ys++[v],.non,M,rfl,(jY.trans s4).trans s5,s5 _ _ KZ,(fun _=>rfl),?_,nM,by rw [Ζ,Ζ,yl];rfl,?_,fun k m hk=>?_,?_,(fun l z=>by cases z),by rw [Ζ,δ];omega⟩,Nat.succ_pos _⟩
    ·simp only [Option.isSome_none,cq,if_false,ay,Option.toList_none]
     exact YdY uY (s4.trans s5)
    ·simpa using h0
    ·simp only [Option.toList_none,ay]
     by_cases c:k<ls.length
     ·rw [ag c] at hk
      exact nx k m hk
     ·have hkl:k=ls.length:=by
       have:=(Ι.mp hk).1;rw [Ζ,δ] at this
       omega
      subst hkl;rw [ar (Μ _),ei] at hk
      cases Λ hk
      rw [e5,List.getElem?_eq_none_iff.mpr (by rw [Ζ,δ];omega)]
    ·simpa using mL
   ·have hm:=Τ e7
    have K1:=(uX.Bh hm).sz;obtain ⟨Ly,u0⟩:=Ye0 uZ e6 (d := .list l') (by rw [Ν,e7];rfl);have jZ:=YdX uY jY (s4.trans s5) ⟨u0.vl.keep s5,u0.nd,u0.new⟩;refine ⟨some l',⟨ls++[l],ys++[v],y,M++Ly,rfl,(jY.trans s4).trans s5,s5 _ _ KZ,(fun z=>by cases z),?_,fun x hx=>?_,by rw [Ζ,Ζ,yl];rfl,?_,fun k m hk=>?_,fun m hmm=>?_,fun m z=>?_,by rw [Ζ,δ];omega⟩,?_⟩
    ·have:(ls++[l]++(some l').toList).map c4=(ls++[l]).map .list++[.list l']:=by simp
     rw [this];exact jZ
    ·rcases η.mp hx with hx | hx
     ·exact nM x hx
     ·intro z
      have:=u0.new x hx;rw [z,hBG] at this;cases this
    ·have:(ls++[l])[0]?=some ds:=h0
     rw [ag (by rw [Ζ,δ];omega)];exact this
    ·by_cases c:k<ls.length
     ·rw [ag c] at hk
      rw [nx k m hk];exact (ag (l₁:=ls++[l]) (by rw [Ζ,δ];omega)).symm
     ·have hkl:k=ls.length:=by
       have:=(Ι.mp hk).1;rw [Ζ,δ] at this
       omega
      subst hkl;rw [ar (Μ _),ei] at hk
      cases Λ hk
      rw [e5,ar (by rw [Ζ,δ];exact Μ _),Ζ,δ,ei];rfl
    ·rcases η.mp hmm with h | h
     ·exact mL m h
     ·rw [ς.mp h];exact uX.nx hm
    ·cases z
     have:dN lo p l'<dN lo p l:=K1;rw [Ζ,δ];omega
    ·have:dN lo p l'<dN lo p l:=K1
     show dN lo p l'+1<dN lo p l+1
     omega
 ·rintro o σ H' ⟨ls,ys,v,M,rfl,sm,hB,no,ow,nM,yl,h0,nx,mL,sz,ll⟩ ho
  cases o with
  | some l=>cases ho
  | none =>
   cases no rfl
   refine rr _ _ ?_;walk_at "rd";simp only [Option.isSome_none,cq,if_false,ay,Option.toList_none] at ow h0 nx mL;refine q B ls H' (B::M) sm ⟨.lst hB (by omega) ow.vl,aS.mpr ⟨fun h=>nM _ h rfl,ow.nd⟩,fun a ha=>?_⟩ ⟨h0,nx,mL,by omega⟩;rcases Υ.mp ha with e | ha
   ·rw [e];exact gB
   ·exact ow.new a ha
def XA (H:Hp) (P:Addr):Prop:=H P=some (.aN #[])\/∃ c,H P=some (.aN #[cy 172,cy 11,.ref c])/\H c=some (cX c Zv)
theorem XA.aN {H:Hp} {P:Addr} (h:XA H P):∃ ps,H P=some (.aN ps):=by
 rcases h with h | ⟨c,h,_⟩
 ·exact ⟨_,h⟩
 ·exact ⟨_,h⟩
def rD (H H':Hp):Prop:=∀ b o,(∀ us,o ≠ .lst us)->H b=some o->H' b=some o
theorem XA.rE {H H':Hp} {P:Addr} (h:XA H P) (s:rD H H'):XA H' P:=by
 rcases h with h | ⟨c1,h,h1⟩
 ·exact .inl (s _ _ (by intro _ z;cases z) h)
 ·exact .inr ⟨c1,s _ _ (by intro _ z;cases z) h,s _ _ (by intro _ z;cases z) h1⟩
theorem K3 {H H':Hp} (s:Ye H H'):rD H H':=fun b o _ e=>s _ _ e
theorem XA.keep {H H':Hp} {P:Addr} (h:XA H P) (s:Ye H H'):XA H' P:=h.rE (K3 s)
theorem XA.but {H H':Hp} {P P2:Addr} {ps:Array Α} (h:XA H P) (hk:∀ a o,a≠P2->H a=some o->H' a=some o) (hP:H P2=some (.aN ps)) (n:P≠P2):XA H' P:=by
 rcases h with h | ⟨c1,h,h1⟩
 ·exact .inl (hk _ _ n h)
 ·exact .inr ⟨c1,hk _ _ n h,hk _ _ (YI h1 hP (by intro z;cases z)) h1⟩
abbrev cJ (x1 x2 x3 x4 b1 f1 b2 f2:Addr):Yz:=[("model_done",x4,.ref f2),("model_begin",x3,.ref b2),("done",x2,.ref f1),("begin",x1,.ref b1)]
theorem Ye2 {g:Gx} {H0 H:Hp} {f c x1 x2 x3 x4 b1 f1 b2 f2:Addr} {how bad bf lo:Int} {p:Sh} {pm ctv:Α} (F0:g.Fn 29 "apart" ["begin","done","model_begin","model_done","deeds"] (gU g)) (nd:(cJ x1 x2 x3 x4 b1 f1 b2 f2).as.Nodup)
  (h:W8 H f c (ZK (cJ x1 x2 x3 x4 b1 f1 b2 f2).cl c pm ctv) Zv (cJ x1 x2 x3 x4 b1 f1 b2 f2)) (op:Ops g H0 b1 f1 b2 f2 how bad bf lo) (n0:NL H0 H) (hc0:∀ a∈(cJ x1 x2 x3 x4 b1 f1 b2 f2).as,H0 a=none):XR g H f how bad lo p:=by
 have F:=Z3i (g:=g) (k:=29) (f_:=f) (c_:=c) (pm:=pm) (ctv:=ctv) (l:=cJ x1 x2 x3 x4 b1 f1 b2 f2) F0 rfl nd;refine ⟨_,_,⟨F,fun us hl=>?_⟩,h.1,fun H1 v ds Q n1 hv hl hq=>?_⟩
 ·match us,hl with
  | [_],_=>rfl
 ·have hin:=(WW h n1).2.2
  have nn:NL H0 (off H1 (cJ x1 x2 x3 x4 b1 f1 b2 f2).as):=by
   refine ⟨fun b xs e=>?_,fun b φ e=>?_⟩
   ·rw [YO fun hm=>by rw [hc0 b hm] at e;cases e]
    exact (n0.trans n1).1 _ _ e
   ·rw [YO fun hm=>by rw [hc0 b hm] at e;cases e]
    exact (n0.trans n1).2 _ _ e
  have op':=op.nl nn;refine ⟨(WW h n1).1,WW h n1,b1,f1,b2,f2,v,how,bad,bf,lo,p,ds,rfl,rfl,op',Kr hin hv,hl,fun H' s hc=>hq _ fun b u e=>?_⟩;by_cases hb:b∈(cJ x1 x2 x3 x4 b1 f1 b2 f2).as
  ·rw [VZ hb];exact e
  ·rw [Y2 hb];exact s _ _ (by rw [YO hb];exact e)
inductive K4 (g:Gx) (P:Addr) (vs:List V) (H:Hp) (Q:VK) (E_:XK):Prop
 | mk (b1 f1 b2 f2:Addr) (how bad bf lo:Int) (p:Sh) (h0:vs=[.ref b1,.ref f1,.ref b2,.ref f2]) (h1:Ops g H b1 f1 b2 f2 how bad bf lo) (h2:XA H P) (h3:∀ f H',XR g H' f how bad lo p->XA H' P->(∀ a o,a≠P->H a=some o->H' a=some o)->Q (.ref f) H')
theorem QB {g:Gx} {H H3:Hp} {P f cf x1 x2 x3 x4 b1 f1 b2 f2:Addr} {how bad bf lo:Int} {p:Sh} {ps:Array Α} {pm ctv:Α} (F0:g.Fn 29 "apart" ["begin","done","model_begin","model_done","deeds"] (gU g)) (nd:(cJ x1 x2 x3 x4 b1 f1 b2 f2).as.Nodup)
  (op:Ops g H b1 f1 b2 f2 how bad bf lo) (hT:H P=some (.aN ps)) (kf:H3 f=some (bK f (ZK (cJ x1 x2 x3 x4 b1 f1 b2 f2).cl cf pm ctv))) (kcf:H3 cf=some (cX cf Zv))
  (kT:H3 P=some (.aN #[cy 172,cy 11,.ref cf])) (keep:∀ a o,a≠P->H a=some o->H3 a=some o) (hc:∀ c∈(cJ x1 x2 x3 x4 b1 f1 b2 f2).as,H3 c=none) :
  XR g (lay H3 (cJ x1 x2 x3 x4 b1 f1 b2 f2)) f how bad lo p/\XA (lay H3 (cJ x1 x2 x3 x4 b1 f1 b2 f2)) P/\∀ a o,a≠P->H a=some o->lay H3 (cJ x1 x2 x3 x4 b1 f1 b2 f2) a=some o:=by
 have hin:=xu (H:=H3) nd;have out:∀ {a:Addr} {o:HO},H3 a=some o->lay H3 (cJ x1 x2 x3 x4 b1 f1 b2 f2) a=some o:=fun {a o} e=>by
  rw [WE fun hm=>?_]
  ·exact e
  ·rw [hc a hm] at e;cases e
 have hc0:∀ a∈(cJ x1 x2 x3 x4 b1 f1 b2 f2).as,H a=none:=fun a ha=>by
  have z:=hc a ha
  cases h:H a with
  | none=>rfl
  | some o =>
   exfalso;by_cases c:a=P
   ·subst c;rw [kT] at z;cases z
   ·rw [keep a o c h] at z;cases z
 have kk:∀ a o,a≠P->H a=some o->lay H3 (cJ x1 x2 x3 x4 b1 f1 b2 f2) a=some o:=fun a o h1 h2=>out (keep a o h1 h2)
 exact ⟨Ye2 F0 nd ⟨out kf,out kcf,hin⟩ op (Aq (Vi kk hT)) hc0,.inr ⟨cf,out kT,out kcf⟩,kk⟩
theorem QO {k:Nat}  {aO aD:Addr} (R:g.dD "deed_judge" "deed_judge" tH ["begin","done","model_begin","model_done"] aO) (bm:Bm g.mg g.base) (je:eP g.base aO aD) (fG:g.Fn 29 "apart" ["begin","done","model_begin","model_done","deeds"] (gU g)):g.Fn (k+1) "deed_judge" ["begin","done","model_begin","model_done"] (K4 g aD):=by
 refine R.Ie QL (fun vs H Q E h=>by obtain ⟨b1,f1,b2,f2,how,bad,bf,lo,p,rfl,op,ht,q⟩:=h;rfl) fun f_ A outer s H vs Q E hr h=>?_
 obtain ⟨b1,f1,b2,f2,how,bad,bf,lo,p,rfl,op,ht,q⟩:=h;refine ⟨_,(@HW _ _ _ _ (@HS _ _ _ _ _ _ _ _ _ bm je rfl rfl (Eq.trans rfl V5) rfl)),?_⟩;have u5:∀ n:Nat,(cJ (n+1) (n+1+1) (n+1+1+1) (n+1+1+1+1) b1 f1 b2 f2).as.Nodup:=fun n=>by
  show aI [n+1+1+1+1,n+1+1+1,n+1+1,n+1]
  simp;omega
 rcases ht with ht | ⟨c1,ht,hc1⟩
 ·refine ⟨_,ht,trivial,.inl ⟨rfl,fun f cf ff g1 g2 g3 ⟨pm,ctv,e⟩=>⟨cJ (s.heap.objs.size+1) (s.heap.objs.size+1+1) (s.heap.objs.size+1+1+1) (s.heap.objs.size+1+1+1+1) b1 f1 b2 f2,⟨u5 _,fun z hz=>?_⟩,fun hc=>?_⟩⟩⟩
  ·simp only [Υ,a7,or_false] at hz
   rcases hz with rfl | rfl | rfl | rfl
   ·exact ⟨3,rfl,rfl,rfl,rfl⟩
   ·exact ⟨2,rfl,rfl,rfl,rfl⟩
   ·exact ⟨1,rfl,rfl,rfl,rfl⟩
   ·exact ⟨0,rfl,rfl,rfl,rfl⟩
  ·subst e
   have fP:=Yj ht g1;have cP:=Yj ht g2;obtain ⟨r1,r2,r3⟩:=QB (H:=H) (f:=f) (cf:=cf) fG (u5 _) op ht (by rw [Yb];rfl) (by rw [Yg (ω g3),Yb]) (by rw [Yg fP,Yg cP,Yb];rfl) (fun a o h1 h2=>by rw [Yg (Yj h2 g1),Yg (Yj h2 g2),Yg h1];exact h2) hc;exact q f _ r1 r2 r3
 ·refine ⟨_,ht,trivial,.inr ⟨c1,rfl,fun f ff g1 ⟨pm,ctv,e⟩=>⟨cJ (s.heap.objs.size+1) (s.heap.objs.size+1+1) (s.heap.objs.size+1+1+1) (s.heap.objs.size+1+1+1+1) b1 f1 b2 f2,⟨u5 _,fun z hz=>?_⟩,fun hc=>?_⟩⟩⟩
  ·simp only [Υ,a7,or_false] at hz
   rcases hz with rfl | rfl | rfl | rfl
   ·exact ⟨3,rfl,rfl,rfl,rfl⟩
   ·exact ⟨2,rfl,rfl,rfl,rfl⟩
   ·exact ⟨1,rfl,rfl,rfl,rfl⟩
   ·exact ⟨0,rfl,rfl,rfl,rfl⟩
  ·subst e
   obtain ⟨r1,r2,r3⟩:=QB (H:=H) (f:=f) (cf:=c1) fG (u5 _) op ht (by rw [Yb];rfl) (by rw [Yg (Yj hc1 g1)];exact hc1) (by rw [Yg (Yj ht g1)];exact ht) (fun a o h1 h2=>by rw [Yg (Yj h2 g1)];exact h2) hc;exact q f _ r1 r2 r3
theorem Ye3 {H0 H1 H2:Hp} {vs:List V} {ds:List Β} {L:List Addr} {ys:List V} {es:List Β} {L':List Addr} (h:bA H0 H1 vs ds L) (s0:Ye H0 H1) (s:Ye H1 H2) (o:bA H1 H2 ys es L'):bA H0 H2 (vs++ys) (ds++es) (L++L'):=by
 refine ⟨(h.vl.keep s).append o.vl,cz.mpr ⟨h.nd,o.nd,fun a ha b hb e=>?_⟩,fun a ha=>?_⟩
 ·subst e
  obtain ⟨vs,e1,_⟩:=h.vl.mem a ha;rw [o.new a hb] at e1
  cases e1
 ·rcases η.mp ha with ha | ha
  ·exact h.new a ha
  ·exact s0.free (o.new a ha)
theorem Ye4 {H0 H1:Hp} {vs:List V} {ds:List Β} {L:List Addr} {P:Addr} (h:bA H0 H1 vs ds L) (s0:Ye H0 H1) (g:H1 P=none) (n:vs.length<=10000):bQ H0 (upd H1 P (.lst vs)) (.ref P) (.list ds) (P::L):=by
 refine ⟨.lst Yb n (h.vl.keep (.aj g _)),aS.mpr ⟨fun m=>?_,h.nd⟩,fun a ha=>?_⟩
 ·obtain ⟨ws,e,_⟩:=h.vl.mem P m
  rw [g] at e;cases e
 ·rcases Υ.mp ha with e | ha
  ·rw [e];exact s0.free g
  ·exact h.new a ha
def Ygt (K:Κ) (fv vs:List V) (H:Hp) (Q:VK):Prop:=∃ (b m v:V) (lo:Int) (p:Sh) (ds:List Β),fv=[m,b]/\vs=[v]/\DV H m (bR lo (.my p))/\DV H v (.list ds)/\bW lo p ds /\
 ∀ r H' L',Ye H H'->bQ H H' r (.list ((nxs lo p ds).map .list)) L'->Q r H'
theorem K5 {ds:List Β} (h:ds.length<=4):(iV ds).length<=80:=by
 have:=KD ds 20 ds.length;have h2:20*ds.length<=80:=by omega
 exact ah this h2
theorem Z2C {k:Nat}   {f_ c_:Addr} {pm ctv:Α} {l:Yz} (pY:g.Fn k "steps_of" ["book","shape","value"] (gR g.K)) (j4:g.Fn k "cuts" ["deeds"] (fD g.K)) (hl:l.map (·.1)=(["many","book"]:List Str)) (hnd:l.as.Nodup):aY g.P g.w g.K g.mg g.base bV (k+1) f_ (Zu l.cl c_ pm ctv) ["breach"] (fun vs H Q _=>Ir H f_ c_ (Zu l.cl c_ pm ctv) Zr l/\(Ygt g.K) l.vs vs (off H l.as) fun v H'=>(∀ c∈l.as,H' c=none)->Q v (on H' H l.as)):=by
 refine Ygh (N:=["breach","many","book"]) (by rw [hl];exact Z2r) hnd (fun vs H Q h=>by obtain ⟨b,m,v,lo,p,ds,eZ,rfl,hm,hv,ok,q⟩:=h;rfl) fun A outer s H vs Q hr h=>?_
 obtain ⟨b,m,v,lo,p,ds,eZ,rfl,hm,hv,ok,q⟩:=h;refine ⟨_,(@Yn _ _ _ _ _ _ _ _ XG (@Ys _ _ _ _ _ _ _ _ _ _ _ _ j4 hr (@Ya _ _ _ _ _ (pv 0) Yc (by rfl)) (by omega) (by rfl) (by rfl) (by decide) (by rfl) (by rfl)) (@Ys _ _ _ _ _ _ _ _ _ _ _ _ pY hr (@Ya _ _ _ _ _ (pv 2) (@Ya _ _ _ _ _ (pv 1) (@Ya _ _ _ _ _ (pv 0) Yc (by rfl)) (by rfl)) (by rfl)) (by omega) (by rfl) (by rfl) (by decide) (by rfl) (by rfl))),?_⟩;have rz:=ok.dep;have jU:=ok.lv;walk_at "rd";rw [eZ];refine ⟨v,ds,rfl,hv,ok.n,by omega,fun r1 H1 L1 s1 iW=>?_⟩;obtain ⟨D1,cg,rfl,hD1,hl1,_⟩:=DV.bD ⟨_,iW.vl⟩;obtain ⟨vs1,M1,_,Bl,_,K6,_,_⟩:=iW.inv;rw [hD1] at Bl
 cases HO.lst.inj (Λ Bl)
 refine ⟨b,lo,m,v,.my p,.list ds,rfl,hm.keep s1,hv.keep s1,ok.gd,by simp only [aQ];omega,fun r2 H2 L2 s2 ig=>?_⟩;obtain ⟨D2,bN,rfl,hD2,hl2,_⟩:=DV.bD ⟨_,ig.vl⟩;obtain ⟨vs2,M2,_,Bo,_,K7,_,_⟩:=ig.inv;rw [hD2] at Bo
 cases HO.lst.inj (Λ Bo)
 have od:=Ye3 K6 s1 s2 K7;have e1:=K6.vl.length;have e2:=K7.vl.length;have n2:=UP ok.gd;have n3:=Af (s := .my p) (by simp only [aQ];omega);have n1:=K5 ok.n;rw [Ε] at e1
 refine ⟨D1,rfl,D2,rfl,_,s2 _ _ hD1,_,hD2,few (by omega),fun P gP=>q _ _ (P::(M1++M2)) ((s1.trans s2).trans (.aj gP _)) ?_⟩;have:=Ye4 od (s1.trans s2) gP (by rw [Ζ];omega);rw [nxs,ξ];exact this
def XJ (H:Hp) (P:Addr):Prop:=H P=some (.aN #[])\/∃ c,H P=some (.aN #[cy 601,cy 35,.ref c])/\H c=some (cX c Zr)
theorem XJ.aN {H:Hp} {P:Addr} (h:XJ H P):∃ ps,H P=some (.aN ps):=by
 rcases h with h | ⟨c,h,_⟩
 ·exact ⟨_,h⟩
 ·exact ⟨_,h⟩
theorem XJ.rE {H H':Hp} {P:Addr} (h:XJ H P) (s:rD H H'):XJ H' P:=by
 rcases h with h | ⟨c1,h,h1⟩
 ·exact .inl (s _ _ (by intro _ z;cases z) h)
 ·exact .inr ⟨c1,s _ _ (by intro _ z;cases z) h,s _ _ (by intro _ z;cases z) h1⟩
theorem XJ.keep {H H':Hp} {P:Addr} (h:XJ H P) (s:Ye H H'):XJ H' P:=h.rE (K3 s)
theorem XJ.but {H H':Hp} {P P2:Addr} {ps:Array Α} (h:XJ H P) (hk:∀ a o,a≠P2->H a=some o->H' a=some o) (hP:H P2=some (.aN ps)) (n:P≠P2):XJ H' P:=by
 rcases h with h | ⟨c1,h,h1⟩
 ·exact .inl (hk _ _ n h)
 ·exact .inr ⟨c1,hk _ _ n h,hk _ _ (YI h1 hP (by intro z;cases z)) h1⟩
theorem QC {H Hz:Hp} {l:Yz} (h:WT H Hz l):Ye H Hz:=fun a o e=>by
 rw [h.2 a fun hm=>?_]
 ·exact e
 ·obtain ⟨p,hp,rfl⟩:=Xa hm
  obtain ⟨_,_,n⟩:=h.1 p hp;rw [n] at e
  cases e
theorem Er {l:Yz} {H:Hp} (hz:l.Z H) {a:Addr} {o:HO} (e:H a=some o) (n:∀ x u,o ≠ .bF x u):a∉l.as:=fun hm=>by
 obtain ⟨p,hp,rfl⟩:=Xa hm;obtain ⟨x,z⟩:=hz p hp;rw [z] at e
 exact n _ _ (Λ e).symm
theorem WZ {l:Yz} {H:Hp} (hz:l.Z H) {a:Addr} {o:HO} (e:H a=some o) (n:∀ x u,o ≠ .bF x u):off H l.as a=some o:=by rw [YO (Er hz e n)];exact e
theorem Bp {l:Yz} {H:Hp} (hz:l.Z H) {v:V} {d:Β} {L:List Addr} (h:DL H v d L):DL (off H l.as) v d L:=h.bO (fun a vs e=>WZ hz e (by intro _ _ z;cases z)) fun a _ vs e=>WZ hz e (by intro _ _ z;cases z)
theorem Bq {l:Yz} {H:Hp} (hz:l.Z H) {v:V} {d:Β} (h:DV H v d):DV (off H l.as) v d:=by obtain ⟨L,h⟩:=h;exact ⟨L,Bp hz h⟩
theorem Oh {P:Addr} {l:Yz} {H:Hp} (hz:l.Z H) (h:XA H P):XA (off H l.as) P:=by
 rcases h with h | ⟨c,h,h1⟩
 ·exact .inl (WZ hz h (by intro _ _ z;cases z))
 ·exact .inr ⟨c,WZ hz h (by intro _ _ z;cases z),WZ hz h1 (by intro _ _ z;cases z)⟩
theorem Oi {P:Addr} {l:Yz} {H:Hp} (hz:l.Z H) (h:XJ H P):XJ (off H l.as) P:=by
 rcases h with h | ⟨c,h,h1⟩
 ·exact .inl (WZ hz h (by intro _ _ z;cases z))
 ·exact .inr ⟨c,WZ hz h (by intro _ _ z;cases z),WZ hz h1 (by intro _ _ z;cases z)⟩
theorem Ygu {l:Yz} {H H':Hp} (s:Ye (off H l.as) H'):Ye H (on H' H l.as):=fun a o e=>by
 by_cases hm:a∈l.as
 ·rw [VZ hm];exact e
 ·rw [Y2 hm];exact s _ _ (by rw [YO hm];exact e)
theorem Ye5 {l:Yz} {H H':Hp} (hc:∀ c∈l.as,H' c=none):Ye H' (on H' H l.as):=fun a o e=>by
 rw [Y2 fun hm=>by rw [hc a hm] at e;cases e];exact e
abbrev iY (x1 x2:Addr) (m b:V):Yz:=[("many",x2,m),("book",x1,b)]
theorem Ye6 {g:Gx} {Hz:Hp} {f c x1 x2:Addr} {m b:V} {lo:Int} {p:Sh} {pm ctv:Α} (F0:g.Fn 59 "cuts" ["deeds"] (fD g.K)) (F1:g.Fn 59 "steps_of" ["book","shape","value"] (gR g.K)) (nd:(iY x1 x2 m b).as.Nodup)
  (hf:Hz f=some (bK f (Zu (iY x1 x2 m b).cl c pm ctv))) (hc:Hz c=some (cX c Zr)) (hz:(iY x1 x2 m b).Z Hz) (hS:DV Hz m (bR lo (.my p))):KN g Hz f lo p:=by
 have F:=Z2C (g:=g) (k:=59) (f_:=f) (c_:=c) (pm:=pm) (ctv:=ctv) (l:=iY x1 x2 m b) F1 F0 rfl nd;refine ⟨_,_,⟨F,fun us hl=>?_⟩,hf,fun H1 v ds Q s1 hv ok hk=>?_⟩
 ·match us,hl with
  | [_],_=>rfl
 ·have z1:=hz.keep s1
  refine ⟨s1 _ _ hf,⟨s1 _ _ hf,s1 _ _ hc,z1⟩,b,m,v,lo,p,ds,rfl,rfl,Bq z1 (hS.keep s1),Bq z1 hv,ok,fun r H' L' s' ow hcc=>?_⟩;refine hk r _ L' (Ygu s') ⟨ow.vl.keep (Ye5 hcc),ow.nd,fun a ha=>?_⟩;obtain ⟨ws,e,_⟩:=ow.vl.mem a ha;have:=ow.new a ha;rw [YO fun hm=>by rw [hcc _ hm] at e;cases e] at this
  exact this
def szB:Sh->Nat
 | .wh=>8 | .tx=>4 | .rw=>0 | .pk=>8 | .my p=>4+4*szB p
theorem K8 {f:Β->Nat} {m:Nat}:∀ {ds:List Β},(∀ d∈ds,f d<=m)->(ds.map f).sum<=m*ds.length
 | [],_=>by simp
 | d::ds,h=>by
  have:=K8 (ds:=ds) fun x hx=>h x (.tail _ hx)
  have:=h d (.head _);rw [af,gy,am,i9];omega
theorem K9 {lo:Int}:∀ {s:Sh} {d:Β},gd lo s d->sz lo s d<=szB s
 | .wh,_,⟨o,ho,e⟩=>by subst e;simp only [sz,Wt,szB];exact zZ ho
 | .tx,_,⟨l,_,n,e⟩=>by subst e;simp only [sz,XO,szB];exact n
 | .rw,d,g=>by simp [sz]
 | .pk,d,g=>by
  rcases g with rfl | ⟨o,ho,rfl⟩
  ·simp [sz]
  ·simp only [sz,Wt,szB];exact zZ ho
 | .my p,_,⟨ds,n,g,e⟩=>by
  subst e;have:=K8 (f:=sz lo p) (m:=szB p) fun d hd=>K9 (g d hd)
  have h2:szB p*ds.length<=szB p*4:=eo _ n;simp only [sz,szB];omega
theorem Yg5 {s:Sh} (h:aQ s<=2):szB s<=40:=by
 match s,h with
 | .wh,_=>decide
 | .tx,_=>decide
 | .rw,_=>decide
 | .pk,_=>decide
 | .my .wh,_=>decide
 | .my .tx,_=>decide
 | .my .rw,_=>decide
 | .my .pk,h=>simp [aQ] at h
 | .my (.my p),h=>have:aQ p≠0:=(by cases p<;>simp [aQ]);simp [aQ] at h;omega
theorem bW.dN {lo:Int} {p:Sh} {ds:List Β} (h:bW lo p ds):dN lo p ds<=900:=by
 have:=K9 h.gd;have:=Yg5 h.lv;simp only [sz,szB] at *;unfold KW.dN;omega
def K2 (P P':Addr) (H H':Hp):Prop:=∀ a o,a≠P->a≠P'->H a=some o->H' a=some o
theorem K2.kt {P P':Addr} {H H':Hp} (h:K2 P P' H H') (h1:∃ ps,H P=some (.aN ps)) (h2:∃ ps,H P'=some (.aN ps)):Kt H H':=fun c o n e=>by
 obtain ⟨ps,h1⟩:=h1;obtain ⟨qs,h2⟩:=h2;exact h c o (YI e h1 (n _)) (YI e h2 (n _)) e
theorem Ygv {l:Yz} {H1 Hz H':Hp} (h:WT H1 Hz l) (s:Ye Hz H'):Ye H1 (off H' l.as):=fun a o e=>by
 rw [YO fun hm=>?_]
 ·exact s a o (QC h _ _ e)
 ·obtain ⟨p,hp,rfl⟩:=Xa hm
  obtain ⟨_,_,n⟩:=h.1 p hp;rw [n] at e
  cases e
inductive pZ (g:Gx) (PJ PS:Addr) (vs:List V) (H:Hp) (Q:VK) (E_:XK):Prop
 | mk (b x v:V) (b1 f1 b2 f2:Addr) (how bad bf lo:Int) (p:Sh) (ds:List Β) (h0:vs=[b,x,.ref b1,.ref f1,.ref b2,.ref f2,v]) (h1:DV H x (bR lo p)) (h2:Ops g H b1 f1 b2 f2 how bad bf lo) (h3:DV H v (.list ds)) (h4:bW lo p ds) (h5:brk how bad lo ds=true) (h6:XA H PJ) (h7:XJ H PS) (h8:PJ≠PS) (h9:∀ B ls H' L',K2 PJ PS H H'->bQ H H' (.ref B) (.list (ls.map .list)) L'->Way how bad lo p ds ls->XA H' PJ->XJ H' PS->Q (.ref B) H')
theorem Z3F {k:Nat}  {aD aL au:Addr} (R:g.dD "shrunk_deeds" "shrunk_deeds" ZM ["book","shape","begin","done","model_begin","model_done","deeds"] aL) (bm:Bm g.mg g.base) (iu:eP g.base aL au) (j5:g.Fn k "deed_judge" ["begin","done","model_begin","model_done"] (K4 g aD)) (Ao:g.Fn k "refuse_no_value" ["book","shape","value"] (jN g.K)) (pY:g.Fn 59 "steps_of" ["book","shape","value"] (gR g.K)) (lF:g.Fn k "shrunk_by" ["judge","value","values_next"] (jX g)) (j4:g.Fn 59 "cuts" ["deeds"] (fD g.K)):g.gq (k+1) "shrunk_deeds" ["book","shape","begin","done","model_begin","model_done","deeds"] (pZ g aD au):=by
 refine R.fnX yK (fun vs H Q E h=>by obtain ⟨b,x,v,b1,f1,b2,f2,how,bad,bf,lo,p,ds,rfl,hx,op,hv,ok,hb,tj,ts,np,q⟩:=h;rfl) fun f_ A outer s H vs Q E hr h=>?_
 obtain ⟨b,x,v,b1,f1,b2,f2,how,bad,bf,lo,p,ds,rfl,hx,op,hv,ok,hb,tj,ts,np,q⟩:=h;refine ⟨_,(@Yd _ _ _ _ _ (PS.dI (@Yr _ _ (7) _ _ _ _ yK.nd rfl (.inr rfl) (@YZ _ _ _ _ _ (@Ya _ _ _ _ _ YC (@Ya _ _ _ _ _ (pv 1) Yc (by rfl)) (by rfl))) (by rfl) (by first | exact .inl rfl | exact .inr rfl | assumption))) (@Yd _ _ _ _ _ (PS.dI (@Y0 _ _ _ _ (@Ys _ _ _ _ _ _ _ _ _ _ _ _ Ao hr (@Ya _ _ _ _ _ (pv 0) (@Ya _ _ _ _ _ (pv 7) (@Ya _ _ _ _ _ (pv 6) Yc (by rfl)) (by rfl)) (by rfl)) (by omega) (by rfl) (by rfl) (by decide) (by rfl) (by rfl)) (by rfl))) (@Yd _ _ _ _ _ (PS.dI (@Yr _ _ (8) _ _ _ _ yK.nd rfl (.inl rfl) (@Ys _ _ _ _ _ _ _ _ _ _ _ _ j5 hr (@Ya _ _ _ _ _ (pv 2) (@Ya _ _ _ _ _ (pv 3) (@Ya _ _ _ _ _ (pv 4) (@Ya _ _ _ _ _ (pv 5) Yc (by rfl)) (by rfl)) (by rfl)) (by rfl)) (by omega) (by rfl) (by rfl) (by decide) (by rfl) (by rfl)) (by rfl) (by first | exact .inl rfl | exact .inr rfl | assumption))) (@Yf _ _ _ (@Yl _ _ _ _ (@YeK _ _ _ _ _ _ _ _ _ _ _ _ _ _ _ _ _ _ _ _ _ lF.toF hr (@Ya _ _ _ _ _ (pv 8) (@Ya _ _ _ _ _ (pv 6) (@Ya _ _ _ _ _ (@HS _ _ _ _ _ _ _ _ _ bm iu rfl rfl (Eq.trans rfl Vw) rfl) Yc (by rfl)) (by rfl)) (by rfl)) (by omega) (by rfl) (by decide) (by rfl) (by rfl))))))),?_⟩;refine Yp fun R rr=>?_
 walk_at "rd";refine ⟨few (by decide),fun m gm=>rr _ _ (Yp fun R rr=>?_)⟩;have sm:=Ye.aj gm (.tup [.str "many",x]);have hM:DV (upd H m (.tup [.str "many",x])) (.ref m) (bR lo (.my p)):=fO Yb (Wm _ (by decide +kernel)) (hx.keep sm);have jU:=ok.lv;walk_at "rd";refine ⟨lo,.my p,.list ds,⟨b,.ref m,v,_,.refl _,hM,hv.keep sm,ok.gd,by simp only [aQ];omega⟩,fun H1 s1=>rr _ _ (Yp fun R rr=>?_)⟩;have sA:=sm.trans s1;walk_at "rd";refine ⟨b1,f1,b2,f2,how,bad,bf,lo,p,rfl,op.nl (WB sA),tj.keep sA,fun f H2 jo La k2=>rr _ _ ?_⟩;obtain ⟨psj,hpj⟩:=(tj.keep sA).aN;have ts2:=(ts.keep sA).but k2 hpj (ω np);have kt2:Kt H H2:=(WA sA).trans (Vi k2 hpj);have Lb:∀ n:Nat,(iY (n+1) (n+1+1) (.ref m) b).as.Nodup:=fun n=>by
  show aI [n+1+1,n+1]
  simp
 have fin:∀ (fn c:Addr) (pm ctv:Α) (H3:Hp),Kt H2 H3->(∀ a o,a≠au->H2 a=some o->H3 a=some o)->XA H3 aD->XJ H3 au->H3 fn=some (bK fn (Zu (iY (s.heap.objs.size+1) (s.heap.objs.size+1+1) (.ref m) b).cl c pm ctv))->H3 c=some (cX c Zr)->∃ l,
   XH (g.cL [bp "book",bp "shape",bp "begin",bp "done",bp "model_begin",bp "model_done",bp "deeds",bp "many",bp "judge"] (bp "shrunk_deeds") ZM f_ (ac aL) A outer s H E) [some b,some x,some (V.ref b1),some (V.ref f1),some (V.ref b2),some (V.ref f2),some v,some (V.ref m),some (V.ref f)] l /\
    ((∀ (c:Addr),c∈l.as->H3 c=none)->∀ (Hz:Hp),WT H3 Hz l->jX g [.ref f,v,.ref fn] Hz (fun v H'=>Q v (off H' l.as)) fun c d H'=>E c d (off H' l.as)):=by
  intro fn c pm ctv H3 k3 Ld Le Lf hfn hc;refine ⟨iY (s.heap.objs.size+1) (s.heap.objs.size+1+1) (.ref m) b,⟨Lb _,fun z hz=>?_⟩,fun _ Hz hL=>?_⟩
  ·simp only [Υ,a7,or_false] at hz
   rcases hz with rfl | rfl
   ·exact ⟨7,rfl,rfl,rfl,rfl⟩
   ·exact ⟨0,rfl,rfl,rfl,rfl⟩
  ·have sz:=QC hL
   have zz:=hL.z;have kz:Kt H Hz:=(kt2.trans k3).trans (WA sz);have kM:Kt (upd H m (.tup [.str "many",x])) Hz:=((WA s1).trans (Vi k2 hpj)).trans (k3.trans (WA sz));have kf:∀ {H'},Ye Hz H'->K2 aD au H (off H' _):=fun s' a o h1 h2 e=>Ygv hL s' _ _ (Ld _ _ h2 (k2 _ _ h1 (sA _ _ e)))
   refine ⟨f,fn,v,how,bad,lo,p,ds,rfl,jo.nl (Aq (k3.trans (WA sz))),Ye6 j4 pY (Lb _) (sz _ _ hfn) (sz _ _ hc) zz (hM.kt kM),hv.kt kz,ok,ok.dN,hb,fun B ls H' L' s' ow way=>?_⟩;have z':=zz.keep s';refine q B ls _ L' (kf s') ⟨Bp z' ow.vl,ow.nd,fun a ha=>?_⟩ way (Oh z' (Le.keep (sz.trans s'))) (Oi z' (Lf.keep (sz.trans s')))
   cases e:H a with
   | none=>rfl
   | some o =>
    exfalso;have nw:=ow.new a ha;by_cases c1:a=aD
    ·obtain ⟨ps,h⟩:=(Le.keep sz).aN
     rw [<- c1,nw] at h;cases h
    by_cases c2:a=au
    ·obtain ⟨ps,h⟩:=(Lf.keep sz).aN
     rw [<- c2,nw] at h;cases h
    rw [sz _ _ (Ld _ _ c2 (k2 _ _ c1 (sA _ _ e)))] at nw
    cases nw
 walk_at "rd";unfold Iu;walk_at "rd";rcases ts2 with ht | ⟨c,ht,hc⟩
 ·refine ⟨_,ht,trivial,.inl ⟨rfl,fun fn c fd g1 g2 g3 ⟨pm,ctv,e⟩=>?_⟩⟩
  subst e;have n1:=Yj ht g1;have n2:=Yj ht g2;have kk:∀ (o1 o2 o3:HO) a o,a≠au->H2 a=some o->upd (upd (upd H2 au o1) c o2) fn o3 a=some o:=fun o1 o2 o3 a o h1 h2=>by rw [Yg (Yj h2 g1),Yg (Yj h2 g2),Yg h1];exact h2
  exact fin fn c pm ctv _ (Vi (kk _ _ _) ht) (kk _ _ _) (La.but (kk _ _ _) ht np) (.inr ⟨c,by rw [Yg n1,Yg n2,Yb];rfl,by rw [Yg (ω g3),Yb]⟩) Yb (by rw [Yg (ω g3),Yb])
 ·refine ⟨_,ht,trivial,.inr ⟨c,rfl,fun fn fd g1 ⟨pm,ctv,e⟩=>?_⟩⟩
  subst e;have su:=Ye.aj g1 (bK fn (Zu (iY (s.heap.objs.size+1) (s.heap.objs.size+1+1) (.ref m) b).cl c pm ctv));exact fin fn c pm ctv _ (WA su) (fun a o _ e=>su _ _ e) (La.keep su) (XJ.keep (.inr ⟨c,ht,hc⟩) su) Yb (su _ _ hc)
theorem YcH {g:TG} {tb:TS} {D:Ends} {σ:St} {H:Hp} {K:Κ} {tl:TE} (Pv:List V->Addr->Nat->St->Hp->Prop) (ha:∀ R:V->Hp->Prop,(∀ ys c H1,Pv ys c 0 σ H1->R (.ref c) H1)->tl σ H R) (hl:∀ ys c i σ H,i<=ys.length->Pv ys c i σ H->ao K H c ys)
  (hs:∀ ys c (i:Nat) x σ H,ys[i]?=some x->Pv ys c i σ H->g x σ H fun σ2 H2=>tb { D with nx:=Pv ys c (i+1),ct:=Pv ys c (i+1),bk:=D.nx } σ2 H2) (hd:∀ ys c σ H,Pv ys c ys.length σ H->D.nx σ H):XS (XM K tl) g tb D σ H:=by
 refine ha _ fun ys c H1 h0=>⟨c,rfl,⟨ys,hl ys c 0 σ H1 (az _) h0⟩,?_⟩
 exact Vk (Pv ys c) h0 (hl ys c) (hs ys c) (hd ys c)
inductive Lg (K:Κ) (vs:List V) (H:Hp) (Q:VK) (E_:XK):Prop
 | mk (a:Addr) (ns:List Int) (k st:Nat) (h0:vs=[.ref a,.int k,.int st]) (h1:ao K H a (ns.map V.int)) (h2:ns.length<=63) (h3:k<=60) (h4:0<st) (h5:st<=60) (h6:∀ (x:Nat) H',x<2^210->Ye H H'->Q (.int x) H')
theorem YcI  (R:g.Raw "_law_mix" "_law_mix" yL ["_law_script","_law_k","_law_step"]):g.Fn (1) "_law_mix" ["_law_script","_law_k","_law_step"] (Lg g.K):=by
 refine R.fn tM (fun vs H Q E h=>by obtain ⟨a,ns,k,st,rfl,hS,hl,hk,h0,hst,q⟩:=h;rfl) fun f_ cdv A outer s H vs Q E hr h=>?_
 obtain ⟨a,ns,k,st,rfl,hS,hl,hk,h0,hst,q⟩:=h;refine ⟨_,(@Yd _ _ _ _ _ (@Yr _ _ (3) _ _ _ _ tM.nd rfl (.inl rfl) (@Yn _ _ _ _ _ _ _ _ YT (@Yn _ _ _ _ _ _ _ _ VX (pv 1) (pv 1)) Yh) (by rfl) (by first | exact .inl rfl | exact .inr rfl | assumption)) (@Yd _ _ _ _ _ (@Xo _ _ _ _ _ _ _ _ ae rfl (@YW _ _ _ _ (@Ydu _ _ _ _ _ _ _ _ _ (pv 0) (pv 1) (pv 2))) (@Yu _ _ (4) _ tM.nd rfl (.inl rfl) (by first | exact .inl rfl | exact .inr rfl | assumption)) (@Yf _ _ _ (@Yr _ _ (3) _ _ _ _ tM.nd rfl (.inl rfl) (@Yn _ _ _ _ _ _ _ _ Xc (@Yn _ _ _ _ _ _ _ _ YT (@Yn _ _ _ _ _ _ _ _ VX (pv 3) Yh) (@Yn _ _ _ _ _ _ _ _ Xc (pv 4) (@Yn _ _ _ _ _ _ _ _ YT (@Yn _ _ _ _ _ _ _ _ Ur Yh Yh) Yh))) (@Yn _ _ _ _ _ _ _ _ YT (@Yn _ _ _ _ _ _ _ _ Ur Yh Yh) Yh)) (by rfl) (by first | exact .inl rfl | exact .inr rfl | assumption))) (by intro _;rfl)) (@Yf _ _ _ (@Yl _ _ _ _ (pv 3))))),?_⟩;refine Yp fun R rr=>?_
 walk_at "rd";refine ⟨.inl (cm (m:=8) (n:=8) (by rw [fN];omega) (by rw [fN];omega)),rr _ _ (Yp fun R rr=>?_)⟩;refine YcH (K:=g.K) (fun ys c i σ H'=>(∀ v∈ys,v∈ns.map V.int)/\Ye H H'/\H' c=some (.lst ys)/\∃ (x:Nat) (o:Option V),σ=[some (.ref a),some (.int k),some (.int st),some (.int x),o]/\x<2^210) (fun R r=>?_) (fun ys c i σ H' _ h=>ao.of h.2.2.1) ?_ ?_
 ·walk_at "rd"
  refine ⟨by omega,by omega,_,hS,fun p ys hp hm hle=>r ys p _ ⟨hm,.aj hp _,Yb,k*k+3,none,by rw [cK,im];rfl,?_⟩⟩;have:k*k<=60*60:=Nat.mul_le_mul hk hk;exact Nat.lt_of_le_of_lt (show k*k+3<=3603 by omega) (by decide)
 ·rintro ys c i v σ H' hv ⟨hm,sm,hc,x,o,rfl,hx⟩
  obtain ⟨z,_,rfl⟩:=aw.mp (hm v (Τ hv));walk_at "rd";have hp:(0:Int)<10^jp 61+51:=by decide +kernel
  obtain ⟨r,hr1,hr2⟩:=Ygk ((x:Int)*48271+z%(10^jp 60+7)) hp;refine ⟨.inl (cm (m:=210) (n:=16) (by rw [fN];exact hx) (by decide)),tU,by decide +kernel,tU,hp,hm,sm,hc,r,hr1,?_⟩;have hb:(10:Int)^jp 61+51<((2^210:Nat):Int):=by decide +kernel
  exact Int.ofNat_lt.mp (Int.lt_trans hr2 hb)
 ·rintro ys c σ H' ⟨hm,sm,hc,x,o,rfl,hx⟩
  refine rr _ _ ?_;walk_at "rd";exact q x H' hx sm
def j6:Nat->Sh
 | 0 => .wh
 | 1 => .tx
 | 2 => .pk
 | _ => .my .wh
theorem QD:∀ cs:List Nat,QX [] (cs.map fun c=>[c])=cs
 | []=>rfl
 | [x]=>rfl
 | x::y::r=>by
  have:=QD (y::r)
  show [x]++[]++QX [] ((y::r).map fun c=>[c])=_
  rw [this];rfl
theorem YcJ (cs:List Nat):Txt.join ("":Str) (cs.map fun c=>S [c])=S cs:=by
 have:=S6 [] (cs.map fun c=>[c]);rw [dA,QD] at this
 exact this
theorem Yd0 (cs:List Nat) (h:cs.length<=1000):((cs.map fun c=>S [c]).map (·.length)).sum+(cs.map fun c=>S [c]).length*("":Str).length<=16777216:=by
 rw [dA,Ε];have:((fun x:Str=>x.length) ∘ fun c=>S [c])=fun _=>1:=by funext c;simp [XO]
 rw [this,List.map_const',List.sum_replicate_nat];have:("":Str).length=0:=by decide +kernel
 rw [this];omega
inductive u6 (K:Κ) (vs:List V) (H:Hp) (Q:VK) (E_:XK):Prop
 | mk (x way:Nat) (lo:Int) (h0:vs=[.int x,.int way,.int lo]) (h1:way<4) (h2:∀ v d H' L,Ye H H'->bQ H H' v d L->gd lo (j6 way) d->Q v H')
theorem u9 {H H':Hp} {v:V} {d:Β} (h:DL H' v d []):bQ H H' v d []:=⟨h,.nil,fun a h=>by cases h⟩
theorem Lh {α:Type} {H:Hp} (f:α->Int):∀ l:List α,aW H (l.map fun k=>V.int (f k)) (l.map fun k => .int (f k)) []
 | [] => .nil
 | a::l => .cons (.int _) (Lh f l)
theorem Yba  (R:g.Raw "_law_deed" "_law_deed" yQ ["_law_cell","_law_way","_law_low"]) (Ze:g.mg "range"=none):g.Fn (1) "_law_deed" ["_law_cell","_law_way","_law_low"] (u6 g.K):=by
 refine R.fn yR (fun vs H Q E h=>by obtain ⟨x,way,lo,rfl,hw,q⟩:=h;rfl) fun f_ cdv A outer s H vs Q E hr h=>?_
 obtain ⟨x,way,lo,rfl,hw,q⟩:=h;refine ⟨_,(@Yd _ _ _ _ _ (@Yr _ _ (3) _ _ _ _ yR.nd rfl (.inr rfl) (@Yn _ _ _ _ _ _ _ _ Xc (@Yn _ _ _ _ _ _ _ _ Xt (pv 0) Yh) Yh) (by rfl) (by first | exact .inl rfl | exact .inr rfl | assumption)) (@Yd _ _ _ _ _ (@Yx _ _ _ _ _ _ _ _ (@Yq _ _ _ _ _ _ _ _ YK (@Yn _ _ _ _ _ _ _ _ Xc (@Yn _ _ _ _ _ _ _ _ Xt (pv 0) Yh) Yh) Yh (Yo _)) (@Yf _ _ _ (@Yr _ _ (3) _ _ _ _ yR.nd rfl (.inr rfl) (@Yn _ _ _ _ _ _ _ _ Xc (@Yn _ _ _ _ _ _ _ _ Xt (pv 0) Yh) Yh) (by rfl) (by first | exact .inl rfl | exact .inr rfl | assumption))) Ym) (@Yd _ _ _ _ _ (@Yx _ _ _ _ _ _ _ _ (@Yq _ _ _ _ _ _ _ _ YK (pv 1) Yh (Yo _)) (@Yf _ _ _ (@Yl _ _ _ _ (@Yn _ _ _ _ _ _ _ _ YT (pv 2) (pv 3)))) Ym) (@Yd _ _ _ _ _ (@Yx _ _ _ _ _ _ _ _ (@Yq _ _ _ _ _ _ _ _ YK (pv 1) Yh (Yo _)) (@Yf _ _ _ (@Yl _ _ _ _ (@Xw _ _ _ _ _ _ _ _ _ _ _ _ F.plainAttrs_str F.slot_str_join F.type_str_join SJ YC (@Ya _ _ _ _ _ (@Xj _ _ _ _ _ _ _ ([none,some 0]) ((["_law_k","_law_cell"]:List Str)) _ (YE 0) _ _ (.own (.cap (i:=0) rfl rfl (by first | exact .inl rfl | exact .inr rfl) .nil)) rfl (@XB _ _ _ _ _ _ rfl Ze (@Ya _ _ _ _ _ (@Yn _ _ _ _ _ _ _ _ Xc (pv 3) Yh) Yc (by rfl)) (by rfl)) (fun cl C s₀ H₀ fp pn=>(@Yu _ _ (0) _ (show aI (["_law_k","_law_cell"]:List Str) by decide +kernel) rfl (.inl rfl) (.inr rfl))) (fun cl C s₀ H₀ fp pn=>YV) (fun cl C s₀ H₀ fp pn=>(@Yv _ _ _ _ _ _ _ RB YC (@Yn _ _ _ _ _ _ _ _ Xc (@Yn _ _ _ _ _ _ _ _ Xt (pv 1) (@Yn _ _ _ _ _ _ _ _ YT Yh (@Yn _ _ _ _ _ _ _ _ VX Yh (pv 0)))) Yh) (fun _ _=>rfl))) (by intro x hx;simp at hx;first | (subst hx;exact .inl rfl) | (rcases hx with rfl | rfl<;>exact .inl rfl) | (rcases hx with rfl | rfl | rfl<;>exact .inl rfl) | (rcases hx with rfl | rfl | rfl | rfl<;>exact .inl rfl) | (rcases hx with rfl | rfl | rfl | rfl | rfl<;>exact .inl rfl)) (by rfl) (by decide) (by decide +kernel) (by intro _;rfl)) Yc (by rfl)) (by rfl) (by rfl) (by rfl) (by rfl) (by rfl)))) Ym) (@Yd _ _ _ _ _ (@Yx _ _ _ _ _ _ _ _ (@O9 _ _ _ _ _ _ _ (@Yq _ _ _ _ _ _ _ _ YK (pv 1) Yh (Yo _)) (@O8 _ _ _ _ (@Yq _ _ _ _ _ _ _ _ FZ (@Yn _ _ _ _ _ _ _ _ Xc (pv 0) Yh) Yh (Yo _)))).pt (@Yf _ _ _ (@Yl _ _ _ _ (@YZ _ _ _ _ _ (@Ya _ _ _ _ _ YC (@Ya _ _ _ _ _ (@YZ _ _ _ _ _ Yc) Yc (Xh _ _ _ _ _)) (by rfl))))) Ym) (@Yd _ _ _ _ _ (@Yx _ _ _ _ _ _ _ _ (@Yq _ _ _ _ _ _ _ _ YK (pv 1) Yh (Yo _)) (@Yf _ _ _ (@Yl _ _ _ _ (@YZ _ _ _ _ _ (@Ya _ _ _ _ _ YC (@Ya _ _ _ _ _ (@Yn _ _ _ _ _ _ _ _ YT (pv 2) (pv 3)) Yc (by rfl)) (by rfl))))) Ym) (@Yf _ _ _ (@Yl _ _ _ _ (@Xj _ _ _ _ _ _ _ ([none,some 2,some 3]) ((["_law_k","_law_low","_law_far"]:List Str)) _ (YE 0) _ _ (.own (.cap (i:=2) rfl rfl (by first | exact .inl rfl | exact .inr rfl) (.cap (i:=3) rfl rfl (by first | exact .inl rfl | exact .inr rfl) .nil))) rfl (@XB _ _ _ _ _ _ rfl Ze (@Ya _ _ _ _ _ (@Yn _ _ _ _ _ _ _ _ Xc (pv 0) Yh) Yc (by rfl)) (by rfl)) (fun cl C s₀ H₀ fp pn=>(@Yu _ _ (0) _ (show aI (["_law_k","_law_low","_law_far"]:List Str) by decide +kernel) rfl (.inl rfl) (.inr rfl))) (fun cl C s₀ H₀ fp pn=>YV) (fun cl C s₀ H₀ fp pn=>(@Yn _ _ _ _ _ _ _ _ YT (pv 1) (@Yn _ _ _ _ _ _ _ _ Xc (@Yn _ _ _ _ _ _ _ _ Xt (pv 2) (@Yn _ _ _ _ _ _ _ _ YT (pv 0) Yh)) Yh))) (by intro x hx;simp at hx;first | (subst hx;exact .inl rfl) | (rcases hx with rfl | rfl<;>exact .inl rfl) | (rcases hx with rfl | rfl | rfl<;>exact .inl rfl) | (rcases hx with rfl | rfl | rfl | rfl<;>exact .inl rfl) | (rcases hx with rfl | rfl | rfl | rfl | rfl<;>exact .inl rfl)) (by rfl) (by decide) (by decide +kernel) (by intro _;rfl)))))))))),?_⟩;refine Yp fun R rr=>?_
 walk_at "rd";refine ⟨Xm (by decide) (by decide),by decide,rr _ _ (Yp fun R rr=>?_)⟩;have key:∀ far:Nat,far<=7->R [some (.int (x:Nat)),some (.int (way:Nat)),some (.int lo),some (.int (far:Nat))] H:=fun far hf=>rr _ _ ?_
 ·walk_at "rd"
  refine ⟨Xm (by decide) (by decide),by decide,U0 (fun _=>⟨Xm (by decide) (by decide),by decide,?_⟩) fun _=>?_⟩
  ·rw [show (x:Int) / 160%8=((x / 160%8:Nat):Int) by omega]
   exact key _ (by omega)
  ·rw [show (x:Int) / 8%4=((x / 8%4:Nat):Int) by omega]
   exact key _ (by omega)
 walk_at "rd"
 match way,hw with
 | 0,_=>exact Xx rfl (q _ _ H [] (.refl _) (u9 (.int _)) ⟨far,hf,rfl⟩)
 | 1,_ =>
  refine Y5 (by decide) (Xx rfl ⟨rfl,?_⟩);refine UD (n:=far%4) ((ai (far%4)).map fun k=>V.str (S [if x / (32+7*k)%2=0 then 97 else 98])) (fun R r=>?_) (by simp) (by omega) ?_ ?_
  ·walk_at "rd"
   rw [show (far:Int)%4=((far%4:Nat):Int) by omega];exact ⟨by decide,r⟩
  ·intro i y H' hi hy sm R r
   rw [Ν,ce hi] at hy
   cases Λ hy
   walk_at "rd";rw [zG];have e:(x:Int) / (32+7*(i:Int))%2=((x / (32+7*i)%2:Nat):Int):=by
    rw [Int.natCast_emod,Int.natCast_ediv,cK,im];rfl
   have hb:=jv (x / (32+7*i)) (show 0<2 by decide);have r:R (V.str (S [if x / (32+7*i)%2=0 then 97 else 98])) H':=r H' (.refl H');generalize x / (32+7*i)%2=b at e hb r;refine ⟨.inl (cm (m:=8) (n:=8) (by decide) (by rw [fN];omega)),Xm (by omega) (by omega),by decide,_,_,if b=0 then 97 else 98,rfl,rfl,by rw [XO];exact few (by decide),?_,r⟩;rw [e,XU];refine Yk ?_
   match b,hb with
   | 0,_=>rfl
   | 1,_=>rfl
  ·intro D H' gD sm hD
   refine ⟨"",D,((ai (far%4)).map fun k=>if x / (32+7*k)%2=0 then 97 else 98).map fun c=>S [c],rfl,rfl,by rw [dA,dA];exact ao.of hD,?_,?_⟩
   ·exact Yd0 _ (by rw [Ε,cE];omega)
   ·rw [YcJ]
    have hc:∀ c∈(ai (far%4)).map fun k=>if x / (32+7*k)%2=0 then 97 else 98,c=97\/c=98:=fun c hc=>by
     obtain ⟨k,_,rfl⟩:=aw.mp hc
     split
     ·exact .inl rfl
     ·exact .inr rfl
    have hl:((ai (far%4)).map fun k=>if x / (32+7*k)%2=0 then 97 else 98).length<=4:=by rw [Ε,cE];omega
    generalize ((ai (far%4)).map fun k=>if x / (32+7*k)%2=0 then 97 else 98)=cs at hc hl;refine q _ (.str (S cs)) H' [] sm (u9 (.str _ ?_)) ⟨cs,hc,hl,rfl⟩
    show cs.toArray.all (·<0x110000)=true
    rw [List.all_toArray,List.all_eq_true];intro c h;have:=hc c h;exact decide_eq_true (by omega)
 | 2,_ =>
  refine Y5 (by decide) (Y5 (by decide) (Xx rfl ⟨by decide,U0 (fun _=>?_) fun _=>Xx rfl ?_⟩))
  ·refine ⟨few (by decide),fun a ga=>⟨few (by decide),fun b gb=>?_⟩⟩
   have sa:=Ye.aj ga (.tup []);have sb:=Ye.aj gb (.tup [.str "ask",.ref a]);exact q _ oZ _ [] (sa.trans sb) (u9 (.tup Yb (by simp) (.cons (.str _ (by decide +kernel)) (.cons (.tup (sb _ _ Yb) (by decide) .nil) .nil)))) (.inl rfl)
  ·refine ⟨few (by decide),fun a ga=>?_⟩
   exact q _ (putD lo far) _ [] (.aj ga _) (u9 (.tup Yb (by simp) (.cons (.str _ (by decide +kernel)) (.cons (.int _) .nil)))) (.inr ⟨far,hf,rfl⟩)
 | 3,_ =>
  refine Y5 (by decide) (Y5 (by decide) (Y5 (by decide) (Y5 (by decide) ?_)));refine UD (n:=x%3) ((ai (x%3)).map fun k=>V.int (lo+((far / (k+1)%2:Nat):Int))) (fun R r=>?_) (by simp) (by omega) ?_ ?_
  ·walk_at "rd"
   rw [show (x:Int)%3=((x%3:Nat):Int) by omega];exact ⟨by decide,r⟩
  ·intro i y H' hi hy sm R r
   rw [Ν,ce hi] at hy
   cases Λ hy
   walk_at "rd";have e:(far:Int) / ((i:Int)+1)%2=((far / (i+1)%2:Nat):Int):=by
    rw [Int.natCast_emod,Int.natCast_ediv,cK];rfl
   rw [e];exact ⟨Xm (by omega) (by omega),by decide,r H' (.refl _)⟩
  ·intro D H' gD sm hD
   refine q _ (.list ((ai (x%3)).map fun k => .int (lo+((far / (k+1)%2:Nat):Int)))) H' [D] sm ⟨.lst hD (by rw [Ε,cE];omega) (Lh _ _),by simp,fun a ha=>by rw [ς.mp ha];exact gD⟩ ⟨_,by rw [Ε,cE];omega,fun e he=>?_,rfl⟩
   ·obtain ⟨k,_,rfl⟩:=aw.mp he
    exact ⟨_,by omega,rfl⟩
inductive qb (vs:List V) (H:Hp) (Q:VK) (E_:XK):Prop
 | mk (way:Nat) (lo:Int) (h0:vs=[.int way,.int lo]) (h1:way<4) (h2:∀ v H',Ye H H'->DV H' v (bR lo (j6 way))->Q v H')
theorem YaO  (R:g.Raw "_law_shape" "_law_shape" yS ["_law_way","_law_low"]):g.Fn (1) "_law_shape" ["_law_way","_law_low"] (qb):=by
 refine R.fn Jh (fun vs H Q E h=>by obtain ⟨way,lo,rfl,hw,q⟩:=h;rfl) fun f_ cdv A outer s H vs Q E hr h=>?_
 obtain ⟨way,lo,rfl,hw,q⟩:=h;refine ⟨_,(@Yd _ _ _ _ _ (@Yr _ _ (2) _ _ _ _ Jh.nd rfl (.inl rfl) (@YZ _ _ _ _ _ (@Ya _ _ _ _ _ YC (@Ya _ _ _ _ _ (pv 1) (@Ya _ _ _ _ _ (@Yn _ _ _ _ _ _ _ _ YT (pv 1) Yh) Yc (by rfl)) (by rfl)) (by rfl))) (by rfl) (by first | exact .inl rfl | exact .inr rfl | assumption)) (@Yf _ _ _ (@Yl _ _ _ _ (@Yv _ _ _ _ _ _ _ Y9 (@YU _ _ _ _ (@Ya _ _ _ _ _ (pv 2) (@Ya _ _ _ _ _ (@YZ _ _ _ _ _ (@Ya _ _ _ _ _ YC (@Ya _ _ _ _ _ YC Yc (by rfl)) (by rfl))) (@Ya _ _ _ _ _ (@YZ _ _ _ _ _ (@Ya _ _ _ _ _ YC (@Ya _ _ _ _ _ (@YZ _ _ _ _ _ (@Ya _ _ _ _ _ (@YZ _ _ _ _ _ (@Ya _ _ _ _ _ YC (@Ya _ _ _ _ _ (@YZ _ _ _ _ _ (@Ya _ _ _ _ _ YC (@Ya _ _ _ _ _ (@YZ _ _ _ _ _ Yc) Yc (Xh _ _ _ _ _)) (by rfl))) Yc (Xh _ _ _ _ _)) (by rfl))) (@Ya _ _ _ _ _ (@YZ _ _ _ _ _ (@Ya _ _ _ _ _ YC (@Ya _ _ _ _ _ (pv 2) Yc (by rfl)) (by rfl))) Yc (Xh _ _ _ _ _)) (Xh _ _ _ _ _))) Yc (Xh _ _ _ _ _)) (by rfl))) (@Ya _ _ _ _ _ (@YZ _ _ _ _ _ (@Ya _ _ _ _ _ YC (@Ya _ _ _ _ _ (pv 2) Yc (by rfl)) (by rfl))) Yc (Xh _ _ _ _ _)) (Xh _ _ _ _ _)) (Xh _ _ _ _ _)) (by rfl))) (pv 0) (fun _ _=>rfl))))),?_⟩;walk_at "rd";refine ⟨few (by decide),fun p0 g0=>?_⟩;have s0:=Ye.aj g0 (.tup (tW lo));have w0:DV (upd H p0 (.tup (tW lo))) (.ref p0) (jK lo) := .tup Yb (by simp) (.cons (Wm _ (by decide +kernel)) (.cons (qW _) (.cons (qW _) .nil)));generalize upd H p0 (.tup (tW lo))=H0 at s0 w0;refine ⟨few (by decide),fun p1 g1=>?_⟩;have s1:=Ye.aj g1 (.tup [.str "text",.str "ab"]);have w1:DV (upd H0 p1 (.tup [.str "text",.str "ab"])) (.ref p1) (bR lo .tx):=fO Yb (Wm _ (by decide +kernel)) (Wm _ (by decide +kernel));generalize upd H0 p1 (.tup [.str "text",.str "ab"])=H1 at s1 w1;refine ⟨few (by decide),fun p2 g2=>?_⟩;have s2:=Ye.aj g2 (.tup []);have w2:DV (upd H1 p2 (.tup [])) (.ref p2) (.tuple []) := .tup Yb (by simp) .nil;generalize upd H1 p2 (.tup [])=H2 at s2 w2;refine ⟨few (by decide),fun p3 g3=>?_⟩;have s3:=Ye.aj g3 (.tup [.str "row",.ref p2]);have w3:DV (upd H2 p3 (.tup [.str "row",.ref p2])) (.ref p3) cD:=fO Yb (Wm _ (by decide +kernel)) (w2.keep s3);generalize upd H2 p3 (.tup [.str "row",.ref p2])=H3 at s3 w3;refine ⟨few (by decide),fun p4 g4=>?_⟩;have s4:=Ye.aj g4 (.tup [.str "ask",.ref p3]);have w4:DV (upd H3 p4 (.tup [.str "ask",.ref p3])) (.ref p4) (.tuple [.str "ask",cD]):=fO Yb (Wm _ (by decide +kernel)) (w3.keep s4);generalize upd H3 p4 (.tup [.str "ask",.ref p3])=H4 at s4 w4;refine ⟨few (by decide),fun p5 g5=>?_⟩;have s5:=Ye.aj g5 (.tup [.str "put",.ref p0]);have qd:=(((s1.trans s2).trans s3).trans s4).trans s5;have w5:DV (upd H4 p5 (.tup [.str "put",.ref p0])) (.ref p5) (.tuple [.str "put",jK lo]):=fO Yb (Wm _ (by decide +kernel)) (w0.keep qd);generalize upd H4 p5 (.tup [.str "put",.ref p0])=H5 at s5 w5 qd;refine ⟨few (by decide),fun p6 g6=>?_⟩;have s6:=Ye.aj g6 (.tup [.ref p4,.ref p5]);have w6:DV (upd H5 p6 (.tup [.ref p4,.ref p5])) (.ref p6) (.tuple [.tuple [.str "ask",cD],.tuple [.str "put",jK lo]]):=fO Yb (w4.keep (s5.trans s6)) (w5.keep s6);generalize upd H5 p6 (.tup [.ref p4,.ref p5])=H6 at s6 w6;refine ⟨few (by decide),fun p7 g7=>?_⟩;have s7:=Ye.aj g7 (.tup [.str "pick",.ref p6]);have w7:DV (upd H6 p7 (.tup [.str "pick",.ref p6])) (.ref p7) (bR lo .pk):=fO Yb (Wm _ (by decide +kernel)) (w6.keep s7);generalize upd H6 p7 (.tup [.str "pick",.ref p6])=H7 at s7 w7;refine ⟨few (by decide),fun p8 g8=>?_⟩;have s8:=Ye.aj g8 (.tup [.str "many",.ref p0]);have mO:=((qd.trans s6).trans s7).trans s8;have w8:DV (upd H7 p8 (.tup [.str "many",.ref p0])) (.ref p8) (bR lo (.my .wh)):=fO Yb (Wm _ (by decide +kernel)) (w0.keep mO);generalize upd H7 p8 (.tup [.str "many",.ref p0])=H8 at s8 w8 mO;refine ⟨few (by decide),fun p9 g9=>?_⟩;have s9:=Ye.aj g9 (.lst [.ref p0,.ref p1,.ref p7,.ref p8]);have s18:=((((((s2.trans s3).trans s4).trans s5).trans s6).trans s7).trans s8).trans s9;have sa:=(s0.trans mO).trans s9
 match way,hw with
 | 0,_=>exact ⟨_,ao.of Yb,_,Yk (j:=0) rfl,q _ _ sa (w0.keep (mO.trans s9))⟩
 | 1,_=>exact ⟨_,ao.of Yb,_,Yk (j:=1) rfl,q _ _ sa (w1.keep s18)⟩
 | 2,_=>exact ⟨_,ao.of Yb,_,Yk (j:=2) rfl,q _ _ sa (w7.keep (s8.trans s9))⟩
 | 3,_=>exact ⟨_,ao.of Yb,_,Yk (j:=3) rfl,q _ _ sa (w8.keep s9)⟩
inductive j7 (K:Κ) (vs:List V) (H:Hp) (Q:VK) (E_:XK):Prop
 | mk (how bad lo:Int) (v:V) (p:Sh) (ds:List Β) (h0:vs=[.int how,.int bad,.int lo,v]) (h1:DV H v (.list ds)) (h2:bW lo p ds) (h3:∀ H',Ye H H'->Q (.bl (brk how bad lo ds)) H')
theorem QP {k:Nat}  (R:g.Raw "_law_breach" "_law_breach" yW ["_law_how","_law_bad","_law_low","_law_deeds"]) (ZN:g.Fn k "_law_weight" ["_law_deed_here","_law_low"] (fB)) (mK:g.Fn k "_law_flag" ["_law_how","_law_bad","_law_weights"] (fC)):g.Fn (k+1) "_law_breach" ["_law_how","_law_bad","_law_low","_law_deeds"] (j7 g.K):=by
 refine R.fn yX (fun vs H Q E h=>by obtain ⟨how,bad,lo,v,p,ds,rfl,hv,ok,q⟩:=h;rfl) fun f_ cdv A outer s H vs Q E hr h=>?_
 obtain ⟨how,bad,lo,v,p,ds,rfl,hv,ok,q⟩:=h;refine ⟨_,(@Yd _ _ _ _ _ (@Yr _ _ (4) _ _ _ _ yX.nd rfl (.inl rfl) (@YU _ _ _ _ Yc) (by rfl) (by first | exact .inl rfl | exact .inr rfl | assumption)) (@Yd _ _ _ _ _ (@Xo _ _ _ _ _ _ _ _ ae rfl (@YW _ _ _ _ (pv 3)) (@Yu _ _ (5) _ yX.nd rfl (.inl rfl) (by first | exact .inl rfl | exact .inr rfl | assumption)) (@Yd _ _ _ _ _ (@Y0 _ _ _ _ (@Xw _ _ _ _ _ _ _ _ _ _ _ _ bb bc bj Y6 (pv 4) (@Ya _ _ _ _ _ (@Ys _ _ _ _ _ _ _ _ _ _ _ _ ZN hr (@Ya _ _ _ _ _ (pv 5) (@Ya _ _ _ _ _ (pv 2) Yc (by rfl)) (by rfl)) (by omega) (by rfl) (by rfl) (by decide) (by rfl) (by rfl)) Yc (by rfl)) (by rfl) (by rfl) (by rfl) (by rfl) (by rfl)) (by rfl)) (@Yf _ _ _ (@Yx _ _ _ _ _ _ _ _ (@YY _ _ _ (@Ys _ _ _ _ _ _ _ _ _ _ _ _ mK hr (@Ya _ _ _ _ _ (pv 0) (@Ya _ _ _ _ _ (pv 1) (@Ya _ _ _ _ _ (pv 4) Yc (by rfl)) (by rfl)) (by rfl)) (by omega) (by rfl) (by rfl) (by decide) (by rfl) (by rfl)) (by intro _;rfl)) (@Yf _ _ _ (@Yl _ _ _ _ WN)) Ym))) (by intro _;rfl)) (@Yf _ _ _ (@Yl _ _ _ _ WN)))),?_⟩;obtain ⟨D,us,rfl,hD,_,hus⟩:=hv.bD;have ul:=hus.length;have dn:=ok.n;refine Yp fun R rr=>?_
 walk_at "rd";refine ⟨few (by decide),fun X gX=>rr _ _ (Yp fun R rr=>?_)⟩;have sX:=Ye.aj gX (.lst []);refine VE (K:=g.K) (a:=D) (xs:=us) (fun i σ H'=>(∃ o,σ=[some (.int how),some (.int bad),some (.int lo),some (.ref D),some (.ref X),o])/\Ye H H'/\H' X=some (.lst ((bT lo ds i).map V.int))/\∀ j<i,fW how bad (bT lo ds (j+1))=false) (fun R r=>by walk_at "rd";exact r) ⟨⟨_,rfl⟩,sX,Yb,(fun j h=>by omega)⟩ (fun i σ H' _ ⟨_,sm,_⟩=>ao.of (sm _ _ hD)) ?_ ?_
 ·rintro i x σ H' hx ⟨⟨o,rfl⟩,sm,hX,hno⟩
  have hi:=(Ι.mp hx).1;have hxi:ds[i]?=some (ds[i]'(by omega)):=Χ _;generalize ds[i]'(by omega)=d at hxi;have hd:=(XQ hus hx hxi).keep sm;have wl:(bT lo ds i).length<=100:=by unfold bT;rw [Ε,ι];omega
  have ws:=Kq (lo:=lo) hxi;refine Yp fun R rr=>?_
  walk_at "rd";refine ⟨.inl ⟨rfl,_,ao.of hX⟩,x,lo,p,d,rfl,hd,ok.g d (Τ hxi),ok.hp,_,hX,few (by rw [Ε];omega),rr _ _ ?_⟩;have hX':upd H' X (.lst ((bT lo ds i).map V.int++[V.int (cH lo d)])) X=some (.lst ((bT lo ds (i+1)).map V.int)):=by rw [Yb,ws,ξ];rfl
  have s':=Ye.aP gX sm (.lst ((bT lo ds i).map V.int++[V.int (cH lo d)]));generalize upd H' X (.lst ((bT lo ds i).map V.int++[V.int (cH lo d)]))=G at hX' s';walk_at "rd";refine ⟨how,bad,X,_,rfl,hX',?_⟩
  cases e:fW how bad (bT lo ds (i+1)) with
  | true =>
   have:=q G s';rw [show brk how bad lo ds=true from List.any_eq_true.mpr ⟨i,b8.mpr (by omega),e⟩] at this
   exact ⟨_,rfl,Xx rfl this⟩
  | false =>
   refine ⟨_,rfl,Y5 (by decide) ⟨s',hX',fun j hj=>?_⟩⟩;by_cases c:j=i
   ·rw [c];exact e
   ·exact hno j (by omega)
 ·rintro σ H' ⟨⟨o,rfl⟩,sm,hX,hno⟩
  refine rr _ _ ?_;walk_at "rd";have:=q H' sm;rw [show brk how bad lo ds=false from List.any_eq_false.mpr fun i hi=>by rw [hno i (by rw [ul];exact b8.mp hi)];decide] at this
  exact this
inductive qe (K:Κ) (vs:List V) (H:Hp) (Q:VK) (E_:XK):Prop
 | mk (v:V) (ds:List Β) (h0:vs=[v]) (h1:DV H v (.list ds)) (h2:ds.length<=4) (h3:∀ r H',Ye H H'->DV H' r (.list ((iV ds).map .list))->Q r H')
def qg (H H':Hp) (X:Addr) (u:V) (l:List Β):Prop:=∃ a zs,u = .ref a/\a≠X/\H' a=some (.lst zs)/\zs.length<=4/\aV H zs l
theorem qg.go {H H' aF:Hp} {X:Addr} {u:V} {l:List Β} (h:qg H H' X u l) (k:∀ a o,a≠X->H' a=some o->aF a=some o):qg H aF X u l:=by
 obtain ⟨a,zs,e,n,h1,h2,h3⟩:=h;exact ⟨a,zs,e,n,k _ _ n h1,h2,h3⟩
inductive CwV (H:Hp) (ds:List Β) (v:V) (X:Addr) (a:Nat×Nat×List (List Β)) (σ:St) (H':Hp):Prop
 | mk (o3:Option V) (ws:List V) (e:σ=[some v,some (.ref X),some (.int (a.1:Nat)),o3]) (h1:a.1<2^a.2.1) (h2:a.2.1<=20) (h3:a.1<=ds.length) (h4:iV ds=a.2.2++Wo a.2.1 ds a.1) (sm:Ye H H') (hX:H' X=some (.lst ws)) (hl:ws.length+4*a.2.1<=80) (f2:F2 (qg H H' X) ws a.2.2)
theorem Ygw {ds:List Β} {c i:Nat} (hc:0<c) (h1:ds.length<=i*c) (h2:∀ j<i,j*c<ds.length):blk ds c=(ai i).map fun i=>ds.take (i*c)++ds.drop (i*c+c):=by
 have hu:iU ds.length c=i:=(UQ hc).uniq ⟨h2,h1⟩;rw [blk,hu]
theorem Ybb  (R:g.Raw "_law_cuts" "_law_cuts" za ["_law_deeds"]) (aA:g.mg "len"=none) (Ze:g.mg "range"=none):g.Fn (1) "_law_cuts" ["_law_deeds"] (qe g.K):=by
 refine R.fn oY (fun vs H Q E h=>by obtain ⟨v,ds,rfl,hv,hdl,q⟩:=h;rfl) fun f_ cdv A outer s H vs Q E hr h=>?_
 obtain ⟨v,ds,rfl,hv,hdl,q⟩:=h;refine ⟨_,(@Yd _ _ _ _ _ (@Yr _ _ (1) _ _ _ _ oY.nd rfl (.inl rfl) (@YU _ _ _ _ Yc) (by rfl) (by first | exact .inl rfl | exact .inr rfl | assumption)) (@Yd _ _ _ _ _ (@Yr _ _ (2) _ _ _ _ oY.nd rfl (.inl rfl) (@YG _ _ _ _ _ _ _ _ _ _ aA YB (@Ya _ _ _ _ _ (pv 0) Yc (by rfl)) (by decide +kernel) (by rfl) (by rfl) (by decide) (by decide) (by rfl) (by rfl)) (by rfl) (by first | exact .inl rfl | exact .inr rfl | assumption)) (@Yd _ _ _ _ _ (@Wg _ _ _ _ _ _ ae (@Yq _ _ _ _ _ _ _ _ Us (pv 2) Yh (Yo _)) (@Yd _ _ _ _ _ (@Xo _ _ _ _ _ _ _ _ ae rfl (@Qu _ _ _ _ _ _ _ _ rfl Ze (@Ya _ _ _ _ _ Yh (@Ya _ _ _ _ _ (@YG _ _ _ _ _ _ _ _ _ _ aA YB (@Ya _ _ _ _ _ (pv 0) Yc (by rfl)) (by decide +kernel) (by rfl) (by rfl) (by decide) (by decide) (by rfl) (by rfl)) (@Ya _ _ _ _ _ (pv 2) Yc (by rfl)) (by rfl)) (by rfl)) (by rfl) (by rfl)) (@Yu _ _ (3) _ oY.nd rfl (.inl rfl) (by first | exact .inl rfl | exact .inr rfl | assumption)) (@Yf _ _ _ (@Y0 _ _ _ _ (@Xw _ _ _ _ _ _ _ _ _ _ _ _ bb bc bj Y6 (pv 1) (@Ya _ _ _ _ _ (@Yn _ _ _ _ _ _ _ _ XG (@Y8 _ _ _ _ _ _ _ _ _ _ WC (pv 0) Xs (@Xf _ _ _ (pv 3))) (@Y8 _ _ _ _ _ _ _ _ _ _ WC (pv 0) (@Xf _ _ _ (@Yn _ _ _ _ _ _ _ _ YT (pv 3) (pv 2))) Xs)) Yc (by rfl)) (by rfl) (by rfl) (by rfl) (by rfl) (by rfl)) (by rfl))) (by intro _;rfl)) (@Yf _ _ _ (@Yr _ _ (2) _ _ _ _ oY.nd rfl (.inl rfl) (@Yn _ _ _ _ _ _ _ _ Xt (pv 2) Yh) (by rfl) (by first | exact .inl rfl | exact .inr rfl | assumption))))) (@Yf _ _ _ (@Yl _ _ _ _ (pv 1)))))),?_⟩;obtain ⟨b,us,rfl,hb,_,hds⟩:=hv.bD;have e1:=hds.length;refine Yp fun R rr=>?_
 walk_at "rd";refine ⟨few (by decide),fun X gX=>rr _ _ (Yp fun R rr=>?_)⟩;have sX:=Ye.aj gX (.lst []);walk_at "rd";refine ⟨_,.inl (ao.of (sX _ _ hb)),rr _ _ (Yp fun R rr=>?_)⟩;rw [e1];refine Wi (α:=Nat×Nat×List (List Β)) (CwV H ds (.ref b) X) (fun a=>decide (0<a.1)) (fun a=>a.1) (ds.length,20,[]) ⟨none,[],rfl,(by omega:ds.length<2^20),Μ 20,Μ _,rfl,sX,Yb,(by show 0+4*20<=80;decide),.nil⟩ ?_ ?_ ?_
 ·rintro ⟨c,f,acc⟩ σ H' h R r
  have h':=r H' h;obtain ⟨o3,ws,rfl,_⟩:=h;walk_at "rd";rw [show decide (0<c)=decide ((0:Int)<(c:Int)) from decide_eq_decide.mpr (by omega)] at h'
  exact h'
 ·rintro ⟨c,f,acc⟩ σ H1 ⟨o3,ws,rfl,h1,h2,h3,h4,sm,hX,hl,f2⟩ hc
  have hc0:0<c:=of_decide_eq_true hc;clear hc;have hf:f≠0:=fun z=>by subst z;simp at h1;omega
  obtain ⟨f,rfl⟩:∃ f',f=f'+1:=⟨f - 1,by omega⟩;dsimp only at h1 h2 h3 h4 hX hl f2 ⊢;rw [WX hc0] at h4
  rw [Nat.pow_succ] at h1
  have hbl:=Bg ds c;refine Yp fun R rr=>?_
  refine Yf9 (n:=ds.length) (c:=c) hc0 (by omega) (fun i σ H'=>∃ o3 ws',σ=[some (.ref b),some (.ref X),some (.int (c:Nat)),o3]/\Ye H H'/\H' X=some (.lst ws')/\(∀ j<i,j*c<ds.length)/\ws'.length<=ws.length+i/\F2 (qg H H' X) ws' (acc++(ai i).map fun i=>ds.take (i*c)++ds.drop (i*c+c))) (fun R r=>?_) (by omega) ⟨o3,ws,rfl,sm,hX,(fun j h=>by omega),by omega,by rw [List.range_zero,c6,ay];exact f2⟩ ?_ ?_
  ·walk_at "rd"
   refine ⟨_,.inl (ao.of (sm _ _ hb)),?_⟩;rw [e1];exact r
  ·rintro i σ H2 hi ⟨o3,ws',rfl,s2,hX2,hij,hwl,g2⟩
   have hic:i<=4:=by
    rcases Nat.lt_or_ge i 5 with h | h
    ·omega
    ·have:5*1<=i*c:=Nat.mul_le_mul h hc0
     omega
   walk_at "rd";refine ⟨.inl ⟨rfl,_,ao.of hX2⟩,_,ao.of (s2 _ _ hb),fun p hp=>?_⟩;rw [Wh] at *
   have u1:=Ye.aj hp (.lst (us.take (i*c)));refine ⟨_,ao.of (u1 _ _ (s2 _ _ hb)),fun p1 hp1=>?_⟩;rw [show ((i*c:Nat):Int)+(c:Int)=((i*c+c:Nat):Int) from (cK _ _).symm,VW];have u2:=Ye.aj hp1 (.lst (us.drop (i*c+c)));refine ⟨_,u2 _ _ Yb,_,Yb,few (by rw [ι,a8];omega),fun p2 hp2=>?_⟩;have u3:=Ye.aj hp2 (.lst (us.take (i*c)++us.drop (i*c+c)));have jV:=(u1.trans u2).trans u3;have hX3:=jV _ _ hX2;have nX:p2≠X:=ω (Yj ((u1.trans u2) _ _ hX2) hp2);have dd:aV H (us.take (i*c)++us.drop (i*c+c)) (ds.take (i*c)++ds.drop (i*c+c)):=(VM hds _).append (zF hds _);refine ⟨_,hX3,few (by omega),.aP gX (s2.trans jV) _,_,Yb,fun j hj=>?_,by rw [Ζ,δ];omega,?_⟩
   ·by_cases e:j=i
    ·rw [e];exact hi
    ·exact hij j (by omega)
   ·rw [dL,ξ,<- ca]
    refine F2.app (g2.imp fun _ _ h=>h.go fun a o n e=>by rw [Yg n];exact jV _ _ e) (.cons ⟨p2,_,rfl,nX,by rw [Yg nX];exact Yb,?_,dd⟩ .nil);rw [Ζ,ι,a8];omega
  ·rintro i σ H2 hi ⟨o3,ws',rfl,s2,hX2,hij,hwl,g2⟩
   refine rr _ _ ?_;rw [<- Ygw hc0 hi hij] at g2
   have hli:i<=4:=by
    rw [<- (UQ hc0).uniq ⟨hij,hi⟩];exact ah Bf hdl
   walk_at "rd";refine ⟨Xm (by decide) (by decide),?_⟩;rw [show ((c:Nat):Int) / 2=((c / 2:Nat):Int) by omega];refine ⟨(c / 2,f,acc++blk ds c),⟨_,ws',rfl,(by omega:c / 2<2^f),(by omega:f<=20),(by omega:c / 2<=ds.length),?_,s2,hX2,?_,g2⟩,(by omega:c / 2<c)⟩
   ·show iV ds=(acc++blk ds c)++Wo f ds (c / 2)
    rw [h4,ca]
   ·show ws'.length+4*f<=80
    omega
 ·rintro ⟨c,f,acc⟩ σ H1 ⟨o3,ws,rfl,h1,h2,h3,h4,sm,hX,hl,f2⟩ hc
  have hc:c=0:=by have:=of_decide_eq_false hc;omega
  subst hc;refine rr _ _ ?_;walk_at "rd";rw [WY,ay] at h4
  dsimp only at h4 f2 hl;rw [<- h4] at f2
  refine q _ H1 sm (.lst hX (by omega) (F2.bB (F2.of (by rw [Ε];exact f2.len) fun i u d e1 e2=>?_)));rw [Ν] at e2
  obtain ⟨l,hl',rfl⟩:=ο.mp e2;obtain ⟨a,zs,rfl,_,ha,hn,hz⟩:=f2.get i u l e1 hl';exact .lst ha (by omega) (hz.keep sm)
inductive qj (m:Nat) (vs:List V) (H:Hp) (Q:VK) (E_:XK):Prop
 | mk (v:_) (d:_) (L:_) (h0:vs=[v]) (h1:DL H v d L) (h2:d.depth<m) (h3:L.length<=100000) (h4:∀ D H',H D=none->Ye H H'->H' D=some (.lst (L.map V.ref))->Q (.ref D) H')
theorem Ye7 {vs:List V} {H:Hp} {Q:VK} {E:XK} (h:qj 0 vs H Q E):False:=by
 obtain ⟨v,d,L,_,_,h,_⟩:=h;omega
theorem Ye8 {H:Hp} {vs:List V} {ds:List Β} {L:List Addr} {i:Nat} {x:V} (h:aW H (vs.drop i) (ds.drop i) L) (hx:vs[i]?=some x):∃ d Lx L',ds[i]?=some d/\L=Lx++L'/\DL H x d Lx/\aW H (vs.drop (i+1)) (ds.drop (i+1)) L':=by
 have hi:=(Ι.mp hx).1;have e1:vs.drop i=x::vs.drop (i+1):=by rw [List.drop_eq_getElem_cons hi,(Ι.mp hx).2]
 rw [e1] at h
 generalize hd:ds.drop i=es at h
 cases h with
 | @cons _ d Lx _ es' L' h1 h2 =>
  have hd0:ds[i]?=some d:=by
   have:=congrArg (fun l=>l[0]?) hd;simpa using this
  have hd1:ds.drop (i+1)=es':=by
   have:=congrArg (List.drop 1) hd;simpa [List.drop_drop,Nat.add_comm] using this
  exact ⟨d,Lx,L',hd0,rfl,h1,by rw [hd1];exact h2⟩
def hdL (v:V):Β->List V
 | .list _=>[v]
 | _=>[]
theorem ZO {k:Nat}  (R:g.Raw "_law_lists" "_law_lists" yM ["_law_value"]) (Br:g.Fn k "_law_lists" ["_law_value"] (qj m)) (Z3:g.mg "isinstance"=none) (aH:g.mg "list"=none) (Z5:g.mg "tuple"=none):g.Fn (k+1) "_law_lists" ["_law_value"] (qj (m+1)):=by
 refine R.fn yN (fun vs H Q E h=>by obtain ⟨v,d,L,rfl,hv,hdp,mQ,q⟩:=h;rfl) fun f_ cdv A outer s H vs Q E hr h=>?_
 obtain ⟨v,d,L,rfl,hv,hdp,mQ,q⟩:=h;refine ⟨_,(@Yd _ _ _ _ _ (@Yr _ _ (1) _ _ _ _ yN.nd rfl (.inl rfl) (@YU _ _ _ _ Yc) (by rfl) (by first | exact .inl rfl | exact .inr rfl | assumption)) (@Yd _ _ _ _ _ (@Yx _ _ _ _ _ _ _ _ (@YY _ _ _ (@YG _ _ _ _ _ _ _ _ _ _ Z3 YH (@Ya _ _ _ _ _ (pv 0) (@Ya _ _ _ _ _ (@Xk _ _ _ _ ("list") aH (by decide +kernel) (by rfl) (by rfl) (by decide) (by decide)) Yc (by rfl)) (by rfl)) (by decide +kernel) (by rfl) (by rfl) (by decide) (by decide) (by rfl) (by rfl)) (by intro _;rfl)) (@Yf _ _ _ (@Y0 _ _ _ _ (@Xw _ _ _ _ _ _ _ _ _ _ _ _ bb bc bj Y6 (pv 1) (@Ya _ _ _ _ _ (pv 0) Yc (by rfl)) (by rfl) (by rfl) (by rfl) (by rfl) (by rfl)) (by rfl))) Ym) (@Yd _ _ _ _ _ (@Yx _ _ _ _ _ _ _ _ (@Vj _ _ _ _ _ _ _ (@YY _ _ _ (@YG _ _ _ _ _ _ _ _ _ _ Z3 YH (@Ya _ _ _ _ _ (pv 0) (@Ya _ _ _ _ _ (@Xk _ _ _ _ ("list") aH (by decide +kernel) (by rfl) (by rfl) (by decide) (by decide)) Yc (by rfl)) (by rfl)) (by decide +kernel) (by rfl) (by rfl) (by decide) (by decide) (by rfl) (by rfl)) (by intro _;rfl)) (@WG _ _ _ _ (@YY _ _ _ (@YG _ _ _ _ _ _ _ _ _ _ Z3 YH (@Ya _ _ _ _ _ (pv 0) (@Ya _ _ _ _ _ (@Xk _ _ _ _ ("tuple") Z5 (by decide +kernel) (by rfl) (by rfl) (by decide) (by decide)) Yc (by rfl)) (by rfl)) (by decide +kernel) (by rfl) (by rfl) (by decide) (by decide) (by rfl) (by rfl)) (by intro _;rfl)))).pt (@Yf _ _ _ (@Xo _ _ _ _ _ _ _ _ ae rfl (@Ej _ _ _ _ _ (@YW _ _ _ _ (pv 0)) (@Uq _ _ _ _ (pv 0))) (@Yu _ _ (2) _ yN.nd rfl (.inl rfl) (by first | exact .inl rfl | exact .inr rfl | assumption)) (@Yf _ _ _ (@Y0 _ _ _ _ (@Xw _ _ _ _ _ _ _ _ _ _ _ _ bb F.slot_list_extend F.type_list_extend VC (pv 1) (@Ya _ _ _ _ _ (@Ys _ _ _ _ _ _ _ _ _ _ _ _ Br hr (@Ya _ _ _ _ _ (pv 2) Yc (by rfl)) (by omega) (by rfl) (by rfl) (by decide) (by rfl) (by rfl)) Yc (by rfl)) (by rfl) (by rfl) (by rfl) (by rfl) (by rfl)) (by rfl))) (by intro _;rfl))) Ym) (@Yf _ _ _ (@Yl _ _ _ _ (pv 1)))))),?_⟩;have h6:100000<sizeLine:=by decide
 refine wO (fun σ H'=>∃ D,σ=[some v,some (.ref D),none]/\H D=none/\Ye H H'/\H' D=some (.lst (hdL v d))) ?_ ?_
 ·rintro σ H1 ⟨D,rfl,hD,s1,hH⟩
  have ty:=xP (K:=g.K) (hv.keep s1);have Pv:∀ (pre:List Addr) (vs:List V) (ds:List Β) (L0:List Addr),aW H vs ds L0->χ ds<m->pre.length+L0.length<=100000->L=pre++L0->hdL v d=pre.map V.ref->vs.length<=10000 ->
    ∃ Pv:Nat->St->Hp->Prop,Pv 0 [some v,some (V.ref D),none] H1/\(∀ i σ H',Pv i σ H'->Ye H H')/\(∀ i x σ H',vs[i]?=some x->Pv i σ H'->YE 2 x σ H' fun σ2 H2=>QR (oJ g.K "list" Gn (W3 1) (Uv (Vl (qj m) [] E0 (Uv (W3 2) UV)) UV)) { nx:=Pv (i+1),rt:=Q,bk:=UU (W3 1) { nx:=fun x H'=>Q V.non H',rt:=Q },ct:=Pv (i+1) } σ2 H2)/\(∀ σ H',Pv vs.length σ H'->UU (W3 1) { nx:=fun x H'=>Q V.non H',rt:=Q } σ H'):=by
   intro pre vs ds L0 hds hdd Kh hL hpre hvl;refine ⟨fun i σ H'=>∃ o2 L1 L2,σ=[some v,some (.ref D),o2]/\Ye H H'/\H' D=some (.lst ((pre++L1).map V.ref))/\L0=L1++L2/\aW H (vs.drop i) (ds.drop i) L2,⟨none,[],L0,rfl,s1,by rw [ay,<- hpre];exact hH,rfl,hds⟩,fun i σ H' ⟨_,_,_,_,s,_⟩=>s,?_,?_⟩
   ·rintro i x σ H' hx ⟨o2,L1,L2,rfl,s2,hd2,rfl,hdr⟩
    obtain ⟨e,Lx,L',he,rfl,hvx,hdr'⟩:=Ye8 hdr hx;have uR:=Xu (Τ he);simp only [Ζ] at Kh;walk_at "rd";refine ⟨.inl ⟨rfl,_,ao.of hd2⟩,x,e,Lx,rfl,hvx.keep s2,by omega,by omega,fun D2 H3 hD2 s3 hd3=>?_⟩;exact ⟨D,D2,_,_,rfl,rfl,s3 _ _ hd2,hd3,by simp;omega,.aP hD (s2.trans s3) _,L1++Lx,by rw [Yb,<- ξ,ca],L',by rw [ca],hdr'⟩
   ·rintro σ H' ⟨o2,L1,L2,rfl,s2,hd2,rfl,hdr⟩
    have e1:=hds.length;rw [List.drop_length,show ds.drop vs.length=[] by rw [e1];exact List.drop_length] at hdr
    cases hdr
    walk_at "rd";rw [ay] at hL
    exact q D H' hD s2 (by rw [hL];exact hd2)
  walk_at "rd"
  cases hv with
  | non=>exact ⟨_,rfl,_,ty,false,rfl,YQ ⟨_,rfl,_,ty,false,rfl,YQ (q _ _ hD s1 hH)⟩⟩
  | bl i=>exact ⟨_,rfl,_,ty,false,rfl,YQ ⟨_,rfl,_,ty,false,rfl,YQ (q _ _ hD s1 hH)⟩⟩
  | int i=>exact ⟨_,rfl,_,ty,false,rfl,YQ ⟨_,rfl,_,ty,false,rfl,YQ (q _ _ hD s1 hH)⟩⟩
  | str x h=>exact ⟨_,rfl,_,ty,false,rfl,YQ ⟨_,rfl,_,ty,false,rfl,YQ (q _ _ hD s1 hH)⟩⟩
  | @lst a vs ds L h hl hds =>
   obtain ⟨Pv,p0,ps,p1,p2⟩:=Pv [a] vs ds L hds (by rw [aE] at hdp;omega) (by simpa [Nat.add_comm] using mQ) rfl rfl hl;exact ⟨_,rfl,_,ty,true,rfl,XY (Yet (VE (K:=g.K) (a:=a) (xs:=vs) Pv (fun R r=>by walk_at "rd";exact r) p0 (fun i σ H' _ p=>ao.of ((ps i σ H' p) _ _ h)) p1 p2))⟩
  | @tup a vs ds L h hl hds =>
   obtain ⟨Pv,p0,ps,p1,p2⟩:=Pv [] vs ds L hds (by rw [aE] at hdp;omega) (by simpa using mQ) rfl rfl hl;exact ⟨_,rfl,_,ty,false,rfl,YQ ⟨_,rfl,_,ty,true,rfl,XY (Yeu (Yes (K:=g.K) (a:=a) (xs:=vs) Pv (fun R r=>by walk_at "rd";exact r) p0 (fun i σ H' _ p=>aq.of ((ps i σ H' p) _ _ h)) p1 p2))⟩⟩
 ·intro N hN
  walk_at "rd";refine ⟨few (by decide),fun D hD=>?_⟩;have u:=Ye.aj hD (.lst []);have ty:=xP (K:=g.K) (hv.keep u)
  cases hv with
  | non=>exact ⟨_,rfl,_,ty,false,rfl,YQ (hN _ _ ⟨D,rfl,hD,u,Yb⟩)⟩
  | bl i=>exact ⟨_,rfl,_,ty,false,rfl,YQ (hN _ _ ⟨D,rfl,hD,u,Yb⟩)⟩
  | int i=>exact ⟨_,rfl,_,ty,false,rfl,YQ (hN _ _ ⟨D,rfl,hD,u,Yb⟩)⟩
  | str x h=>exact ⟨_,rfl,_,ty,false,rfl,YQ (hN _ _ ⟨D,rfl,hD,u,Yb⟩)⟩
  | @lst a vs ds L h hl hds=>exact ⟨_,rfl,_,ty,true,rfl,XY ⟨.inl ⟨rfl,_,ao.of Yb⟩,_,Yb,few (by decide),hN _ _ ⟨D,rfl,hD,.aP hD u _,Yb⟩⟩⟩
  | @tup a vs ds L h hl hds=>exact ⟨_,rfl,_,ty,false,rfl,YQ (hN _ _ ⟨D,rfl,hD,u,Yb⟩)⟩
def Ww (H:Hp) (a:Addr):Nat:=match H a with
 | some (.lst vs)=>vs.length
 | _=>0
theorem Lj {H:Hp} {a:Addr} {vs:List V} (h:H a=some (.lst vs)):Ww H a=vs.length:=by unfold Ww;rw [h]
theorem Bs {L:List Addr} {i:Nat} {x:V} (h:(L.map V.ref)[i]?=some x):∃ a,L[i]?=some a/\x = .ref a/\a∈L:=by
 rw [Ν] at h
 obtain ⟨a,ha,rfl⟩:=ο.mp h;exact ⟨a,ha,rfl,Τ ha⟩
theorem QE {K:Κ} {H:Hp} {f:Addr->Int}:∀ (L:List Addr),cu K H (L.map fun a => .int (f a)) (L.map fun a => .int (f a))
 | [] => .nil
 | a::L => .cons (.int _) (QE L)
theorem Lk {K:Κ} {H:Hp} {f:Addr->Int} {L:List Addr} {p:Addr} (h:H p=some (.lst (L.map fun a => .int (f a)))):Den K H (.ref p) (.list (L.map fun a => .int (f a))) := .lst (ao.of h) (QE L)
theorem QF {f:Addr->Int}:∀ (L:List Addr),χ (L.map fun a=>PyData.int (f a))<=1
 | []=>by simp [χ]
 | a::L=>by have:=QF (f:=f) L;simp only [af,χ,aE];omega
theorem YcL {f:Addr->Int} {L:List Addr}:(c4 (L.map fun a=>PyData.int (f a))).depth<=64:=by
 rw [aE];have:=QF (f:=f) L;omega
inductive Ln (K:Κ) (vs:List V) (H:Hp) (Q:VK) (E_:XK):Prop
 | mk (v:_) (d:_) (L:_) (h0:vs=[v]) (h1:DL H v d L) (h2:L.Nodup) (h3:d.depth<6) (h4:L.length<=100000) (h5:∀ H',(∀ a o,a∉L->H a=some o->H' a=some o)->Q (.bl true) H')
theorem YcM {k:Nat}  (R:g.Raw "_law_own" "_law_own" yO ["_law_value"]) (Br:g.Fn k "_law_lists" ["_law_value"] (qj 6)) (aA:g.mg "len"=none):g.Fn (k+1) "_law_own" ["_law_value"] (Ln g.K):=by
 refine R.fn tO (fun vs H Q E h=>by obtain ⟨v,d,L,rfl,hv,hnd,hdp,mQ,q⟩:=h;rfl) fun f_ cdv A outer s H vs Q E hr h=>?_
 obtain ⟨v,d,L,rfl,hv,hnd,hdp,mQ,q⟩:=h;refine ⟨_,(@Yd _ _ _ _ _ (@Yr _ _ (1) _ _ _ _ tO.nd rfl (.inl rfl) (@Ys _ _ _ _ _ _ _ _ _ _ _ _ Br hr (@Ya _ _ _ _ _ (pv 0) Yc (by rfl)) (by omega) (by rfl) (by rfl) (by decide) (by rfl) (by rfl)) (by rfl) (by first | exact .inl rfl | exact .inr rfl | assumption)) (@Yd _ _ _ _ _ (@U3 _ (2) _ _ _ _ _ _ _ _ _ ([none]) ((["_law_one"]:List Str)) _ (YE 0) _ _ tO.nd rfl (.inl rfl) (.own .nil) rfl (@YW _ _ _ _ (pv 1)) (fun cl C s₀ H₀ fp pn=>(@Yu _ _ (0) _ (show aI (["_law_one"]:List Str) by decide +kernel) rfl (.inl rfl) (.inr rfl))) (fun cl C s₀ H₀ fp pn=>YV) (fun cl C s₀ H₀ fp pn=>(@YG _ _ _ _ _ _ _ _ _ _ aA (Vu (K:=g.K)) (@Ya _ _ _ _ _ (pv 0) Yc (by rfl)) (by decide +kernel) (by rfl) (by rfl) (by decide) (by decide) (by rfl) (by rfl))) (by intro x hx;simp at hx) (by rfl) (by decide) (by decide +kernel) (by intro _;rfl) (by rfl) (by first | exact .inl rfl | exact .inr rfl | assumption)) (@Yd _ _ _ _ _ (@Xo _ _ _ _ _ _ _ _ ae rfl (@YW _ _ _ _ (pv 1)) (@Yu _ _ (3) _ tO.nd rfl (.inl rfl) (by first | exact .inl rfl | exact .inr rfl | assumption)) (@Yf _ _ _ (@Y0 _ _ _ _ (@Xw _ _ _ _ _ _ _ _ _ _ _ _ bb bc bj Y6 (pv 3) (@Ya _ _ _ _ _ XF Yc (by rfl)) (by rfl) (by rfl) (by rfl) (by rfl) (by rfl)) (by rfl))) (by intro _;rfl)) (@Yf _ _ _ (@Yl _ _ _ _ (@Xe _ _ _ _ _ _ _ _ (Hl hr.units) (@Xj _ _ _ _ _ _ _ ([none]) ((["_law_one"]:List Str)) _ (YE 0) _ _ (.own .nil) rfl (@YW _ _ _ _ (pv 1)) (fun cl C s₀ H₀ fp pn=>(@Yu _ _ (0) _ (show aI (["_law_one"]:List Str) by decide +kernel) rfl (.inl rfl) (.inr rfl))) (fun cl C s₀ H₀ fp pn=>YV) (fun cl C s₀ H₀ fp pn=>(@YG _ _ _ _ _ _ _ _ _ _ aA (Vu (K:=g.K)) (@Ya _ _ _ _ _ (pv 0) Yc (by rfl)) (by decide +kernel) (by rfl) (by rfl) (by decide) (by decide) (by rfl) (by rfl))) (by intro x hx;simp at hx) (by rfl) (by decide) (by decide +kernel) (by intro _;rfl)) (@Xj _ _ _ _ _ _ _ ([none]) ((["_law_size"]:List Str)) _ (YE 0) _ _ (.own .nil) rfl (@YW _ _ _ _ (pv 2)) (fun cl C s₀ H₀ fp pn=>(@Yu _ _ (0) _ (show aI (["_law_size"]:List Str) by decide +kernel) rfl (.inl rfl) (.inr rfl))) (fun cl C s₀ H₀ fp pn=>YV) (fun cl C s₀ H₀ fp pn=>(@Yn _ _ _ _ _ _ _ _ YT (pv 0) Yh)) (by intro x hx;simp at hx) (by rfl) (by decide) (by decide +kernel) (by intro _;rfl)) (Yo _))))))),?_⟩;have h6:100000<sizeLine:=by decide
 have hm:=hv.mem;refine wO (fun σ H'=>∃ D1 D2,σ=[some v,some (.ref D1),some (.ref D2),none]/\Ye H H'/\H D1=none/\H D2=none/\H' D1=some (.lst (L.map V.ref))/\H' D2=some (.lst (L.map fun a => .int (Ww H a:Nat)))) ?_ ?_
 ·rintro σ H1 ⟨D1,D2,rfl,s1,n1,n2,h1,h2⟩
  have d1:D1∉L:=fun h=>by obtain ⟨vs,e,_⟩:=hm D1 h;rw [n1] at e;cases e
  have d2:D2∉L:=fun h=>by obtain ⟨vs,e,_⟩:=hm D2 h;rw [n2] at e;cases e
  refine Ni (fun σ H'=>∃ o3,σ=[some v,some (.ref D1),some (.ref D2),o3]/\(∀ a∈L,∃ vs,H a=some (.lst vs)/\H' a=some (.lst (vs++[.non])))/\∀ a o,a∉L->H1 a=some o->H' a=some o) ?_ ?_
  ·rintro σ H2 ⟨o3,rfl,hin,hout⟩
   have k1:=hout _ _ d1 h1;have k2:=hout _ _ d2 h2;walk_at "rd";refine X0 (K:=g.K) (xs:=L.map V.ref) (L.map fun a => .int ((Ww H a:Int)+1)) (fun R r=>by walk_at "rd";exact r D1 _ (.refl _) (ao.of k1)) (by simp) (by rw [Ε];omega) ?_ ?_
   ·intro i x y H' hx hy sm R r
    obtain ⟨a,ha,rfl,ham⟩:=Bs hx;rw [Ν,ha] at hy
    have:V.int ((Ww H a:Int)+1)=y:=Λ hy;subst this;obtain ⟨vs,e1,e2⟩:=hin a ham;walk_at "rd";refine ⟨_,.inl (ao.of (sm _ _ e2)),?_⟩;rw [Lj e1] at r
    rw [Ζ,δ,cK];exact r H' (.refl _)
   ·intro D3 H3 hD3 s3 h3
    refine X0 (K:=g.K) (xs:=L.map fun a => .int (Ww H a:Nat)) (L.map fun a => .int ((Ww H a:Int)+1)) (fun R r=>by walk_at "rd";exact r D2 _ (.refl _) (ao.of (s3 _ _ k2))) (by simp) (by rw [Ε];omega) ?_ ?_
    ·intro i x y H' hx hy sm R r
     rw [Ν] at hx
     obtain ⟨a,ha,rfl⟩:=ο.mp hx;rw [Ν,ha] at hy
     have:V.int ((Ww H a:Int)+1)=y:=Λ hy;subst this;walk_at "rd";exact r H' (.refl _)
    ·intro D4 H4 Bj s4 h4
     have e1:=Lk (K:=g.K) (f:=fun a=>(Ww H a:Int)+1) (s4 _ _ h3);have e2:=Lk (K:=g.K) (f:=fun a=>(Ww H a:Int)+1) h4;refine ⟨_,e1,_,e2,YcL,?_⟩
     ·rw [PySem.SeqAt.eqv_refl _ (Den.lay (K:=g.K) e1)]
      exact q _ fun a o ha h=>(s3.trans s4) _ _ (hout a o ha (s1 _ _ h))
  ·intro N hN
   walk_at "rd";refine VE (K:=g.K) (a:=D1) (xs:=L.map V.ref) (fun i σ H'=>∃ o3,σ=[some v,some (.ref D1),some (.ref D2),o3]/\(∀ j a,L[j]?=some a->∃ vs,H a=some (.lst vs)/\vs.length<=10000/\H' a=some (.lst (if j<i then vs++[.non] else vs)))/\∀ a o,a∉L->H1 a=some o->H' a=some o) (fun R r=>by walk_at "rd";exact r) ⟨none,rfl,fun j a ha=>?_,fun a o _ h=>h⟩ (fun i σ H' _ ⟨_,_,_,ho⟩=>ao.of (ho _ _ d1 h1)) ?_ ?_
   ·obtain ⟨vs,e,hl⟩:=hm a (Τ ha)
    exact ⟨vs,e,hl,by rw [if_neg (by omega)];exact s1 _ _ e⟩
   ·rintro i x σ H' hx ⟨o3,rfl,hin,hout⟩
    obtain ⟨a,ha,rfl,ham⟩:=Bs hx;obtain ⟨vs,e1,e2,e3⟩:=hin i a ha;rw [if_neg (by omega)] at e3
    walk_at "rd";refine ⟨.inl ⟨rfl,_,ao.of e3⟩,vs,e3,by omega,fun j b hb=>?_,fun b o hb h=>?_⟩
    ·obtain ⟨us,f1,f2,f3⟩:=hin j b hb
     refine ⟨us,f1,f2,?_⟩;by_cases c:j=i
     ·subst c
      rw [ha] at hb
      cases hb
      rw [e1] at f1
      cases f1
      rw [Yb,if_pos (by omega)]
     ·have hne:b≠a:=fun e=>by
       subst e;exact c ((List.getElem?_inj (Ι.mp hb).1 hnd).mp (hb.trans ha.symm))
      rw [Yg hne,f3];by_cases c2:j<i
      ·rw [if_pos c2,if_pos (by omega)]
      ·rw [if_neg c2,if_neg (by omega)]
    ·have hne:b≠a:=fun e=>by subst e;exact hb ham
     rw [Yg hne];exact hout b o hb h
   ·rintro σ H' ⟨o3,rfl,hin,hout⟩
    refine hN _ _ ⟨o3,rfl,fun a ha=>?_,hout⟩;obtain ⟨j,hj⟩:=List.mem_iff_getElem?.mp ha;obtain ⟨vs,f1,f2,f3⟩:=hin j a hj;have hjl:=(Ι.mp hj).1;rw [if_pos (by rw [Ε];exact hjl)] at f3
    exact ⟨vs,f1,f3⟩
 ·intro N hN
  walk_at "rd";refine ⟨v,d,L,rfl,hv,hdp,mQ,fun D1 H1 n1 s1 h1=>?_⟩;refine X0 (K:=g.K) (xs:=L.map V.ref) (L.map fun a => .int (Ww H a:Nat)) (fun R r=>by walk_at "rd";exact r D1 _ (.refl _) (ao.of h1)) (by simp) (by rw [Ε];omega) ?_ ?_
  ·intro i x y H' hx hy sm R r
   obtain ⟨a,ha,rfl,ham⟩:=Bs hx;rw [Ν,ha] at hy
   have:V.int (Ww H a:Nat)=y:=Λ hy;subst this;obtain ⟨vs,e1,e2⟩:=hm a ham;walk_at "rd";refine ⟨_,.inl (ao.of ((s1.trans sm) _ _ e1)),?_⟩;rw [Lj e1] at r
   exact r H' (.refl _)
  ·intro D2 H2 hD2 s2 h2
   exact hN _ _ ⟨D1,D2,rfl,s1.trans s2,n1,s1.free hD2,s2 _ _ h1,h2⟩
theorem Yd1 {α:Type} {src:List (Option Nat)} {te:TE} {σ:St} {H:Hp} {Q:VK} {K:Κ} {tl:TE} {tt:TT} {xs:List V} {ps:List α} (hxp:xs.length=ps.length) (p:α->Bool) (ha:∀ R:V->Hp->Prop,(∀ a H1,Ye H H1->ao K H1 a xs->R (.ref a) H1)->tl σ H R) (hlen:xs.length<=100000)
  (test:∀ (i:Nat) x q H',xs[i]?=some x->ps[i]?=some q->Ye H H'->∀ R:Bool->Hp->Prop,(∀ aF,Ye H' aF->R (p q) aF)->tt (some x::YF src σ) H' R)
  (step:∀ x H',Ye H H'->∀ R:VK,(∀ aF,Ye H' aF->R x aF)->te (some x::YF src σ) H' R)
  (fin:∀ D zs H',H D=none->Ye H H'->H' D=some (.lst zs)->F2 (fun y q=>∃ i:Nat,xs[i]?=some y/\ps[i]?=some q) zs (ps.filter p)->Q (.ref D) H'):dj (none::src) (XM K tl) (YE 0) tt te σ H Q:=by
 refine ha _ fun a H1 s1 hS=>⟨a,rfl,⟨xs,hS⟩,fun D hD=>?_⟩
 have h6:100000<sizeLine:=by decide
 refine wH (XD.imp fun H' (e:Ye H1 H')=>e.seq hS) (fun i zs σ' H'=>F2 (fun y q=>∃ i:Nat,xs[i]?=some y/\ps[i]?=some q) zs ((ps.take i).filter p)/\(∃ o,σ'=o::YF src σ)/\Ye H1 H'/\H' D=some (.lst zs)) ⟨by simp;exact .nil,⟨none,rfl⟩,.aj hD _,Yb⟩ (fun i zs σ' H' q=>⟨q.2.2.1,q.2.2.2⟩) ?_ ?_
 ·rintro i zs σ' H' x hx ⟨hz,⟨o,rfl⟩,sm,hd⟩
  have hi:=(Ι.mp hx).1;have hq:ps[i]?=some (ps[i]'(by omega)):=Χ _;generalize ps[i]'(by omega)=qq at hq;have hzl:=hz.len;have hfl:=List.length_filter_le p (ps.take i);rw [ι] at hfl
  show tt (some x::YF src σ) H' _
  refine test i x qq H' hx hq (s1.trans sm) _ fun H2 s2=>?_
  cases e:p qq with
  | true =>
   refine XY ?_;refine step x H2 ((s1.trans sm).trans s2) _ fun H3 s3=>⟨s3 _ _ (s2 _ _ hd),by omega,?_,⟨_,rfl⟩,.aP hD ((sm.trans s2).trans s3) _,Yb⟩
   rw [Xb hq,fI,show [qq].filter p=[qq] by simp [e]];exact hz.app (.cons ⟨i,hx,hq⟩ .nil)
  | false =>
   refine YQ ⟨?_,⟨_,rfl⟩,sm.trans s2,s2 _ _ hd⟩;rw [Xb hq,fI,show [qq].filter p=[] by simp [e],ay];exact hz
 ·rintro zs σ' H' ⟨hz,_,sm,hd⟩
  rw [hxp,c9] at hz
  exact fin D zs H' (s1.free hD) (s1.trans sm) hd hz
def lB:Sh->Nat
 | .my p=>1+4*lB p
 | _=>0
theorem Ql {H:Hp} {n:Nat}:∀ {vs:List V} {ds:List Β} {L:List Addr},aW H vs ds L->(∀ d∈ds,∀ v L,DL H v d L->L.length<=n)->L.length<=n*ds.length
 | _,_,_,.nil,_=>by simp
 | _,_,_,.cons h t,k=>by
  have h1:=k _ (.head _) _ _ h;have h2:=Ql t fun d hd=>k d (.tail _ hd)
  rw [Ζ,am,i9];omega
theorem Lp {H:Hp} {lo:Int}:∀ {s:Sh} {d:Β} {v:V} {L:List Addr},gd lo s d->DL H v d L->L.length<=lB s
 | .wh,_,v,L,⟨o,_,e⟩,h=>by subst e;cases h;simp
 | .tx,_,v,L,⟨l,_,_,e⟩,h=>by subst e;cases h;simp
 | .rw,d,v,L,g,h=>by
  cases (show d=_ from g)
  cases h with
  | tup _ _ h=>cases h;simp
 | .pk,d,v,L,g,h=>by
  rcases g with rfl | ⟨o,_,rfl⟩
  ·cases h with
   | tup _ _ h=>cases h with
    | cons h1 h2=>cases h1;cases h2 with
     | cons h3 h4=>cases h4;cases h3 with
      | tup _ _ h5=>cases h5;simp
  ·cases h with
   | tup _ _ h=>cases h with
    | cons h1 h2=>cases h1;cases h2 with
     | cons h3 h4=>cases h4;cases h3;simp
 | .my p,_,v,L,⟨ds,n,g,e⟩,h=>by
  subst e
  cases h with
  | lst _ _ h =>
   have:=Ql h fun d hd v L h=>Lp (g d hd) h
   have h2:lB p*ds.length<=lB p*4:=eo _ n;simp only [lB,am];omega
theorem Es {s:Sh} (h:aQ s<=3):lB s<=30:=by
 match s,h with
 | .wh,_=>decide
 | .tx,_=>decide
 | .rw,_=>decide
 | .pk,_=>decide
 | .my .wh,_=>decide
 | .my .tx,_=>decide
 | .my .rw,_=>decide
 | .my .pk,_=>decide
 | .my (.my .wh),_=>decide
 | .my (.my .tx),_=>decide
 | .my (.my .rw),_=>decide
 | .my (.my .pk),h=>simp [aQ] at h
 | .my (.my (.my p)),h=>have:aQ p≠0:=(by cases p<;>simp [aQ]);simp [aQ] at h;omega
inductive qm (g:Gx) (vs:List V) (H:Hp) (Q:VK) (E_:XK):Prop
 | mk (B pl:Addr) (b x dv:V) (L:List Addr) (how bad lo:Int) (p:Sh) (ds:List Β) (ls:List (List Β)) (h0:vs=[.ref B,b,x,.ref pl,dv]) (h1:DL H (.ref B) (.list (ls.map .list)) L) (h2:L.Nodup) (h3:DV H x (bR lo p)) (h4:H pl=some (.tup [.int how,.int bad,.int lo])) (h5:DV H dv (.list ds)) (h6:Way how bad lo p ds ls) (h7:∀ H',(∀ a o,a∉L->H a=some o->H' a=some o)->Q (.bl true) H')
theorem QG {α:Type} {l:List α}:l.take 1=l[0]?.toList:=by cases l<;>rfl
theorem Ye9 {α:Type} {l:List α} {k:Nat}:(l.drop k).take 1=l[k]?.toList:=by
 rw [QG,List.getElem?_drop,Nat.add_zero]
theorem UR {α:Type} {q:α->Bool}:∀ {l:List α},(l.filter q).take 1=(l.find? q).toList
 | []=>rfl
 | a::l=>by
  cases h:q a with
  | true=>rw [List.filter_cons,if_pos h,bn,h];rfl
  | false=>rw [List.filter_cons,if_neg (by rw [h];decide),bn,h];exact UR
theorem qp {K:Κ} {H:Hp} {v:V} {d:Β} (h:Den K H v d):d.eqv d=true:=PySem.SeqAt.eqv_refl _ (Den.lay (K:=K) h)
theorem QQ {k:Nat}  (R:g.Raw "_law_walked" "_law_walked" zf ["_law_found","_law_book","_law_shape_here","_law_plan","_law_deeds"]) (pY:g.Fn k "steps_of" ["book","shape","value"] (gR g.K)) (qt:g.Fn k "_law_own" ["_law_value"] (Ln g.K)) (mH:g.Fn k "_law_copy" ["_law_value"] (Zs 6)) (Bt:g.Fn k "_law_breach" ["_law_how","_law_bad","_law_low","_law_deeds"] (j7 g.K)) (ni:g.Fn k "_law_cuts" ["_law_deeds"] (qe g.K)) (Z3:g.mg "isinstance"=none) (aA:g.mg "len"=none) (aH:g.mg "list"=none) (Ze:g.mg "range"=none):g.Fn (k+1) "_law_walked" ["_law_found","_law_book","_law_shape_here","_law_plan","_law_deeds"] (qm g):=by
 refine R.fn tQ (fun vs H Q E h=>by obtain ⟨B,pl,b,x,dv,L,how,bad,lo,p,ds,ls,rfl,hf,nd,hx,hpl,hdv,way,q⟩:=h;rfl) fun f_ cdv A outer s H vs Q E hr h=>?_
 obtain ⟨B,pl,b,x,dv,L,how,bad,lo,p,ds,ls,rfl,hf,nd,hx,hpl,hdv,way,q⟩:=h;refine ⟨_,(@Yd _ _ _ _ _ (@Yx _ _ _ _ _ _ _ _ (@Vj _ _ _ _ _ _ _ (@Wr _ _ _ _ (@YY _ _ _ (@YG _ _ _ _ _ _ _ _ _ _ Z3 YH (@Ya _ _ _ _ _ (pv 0) (@Ya _ _ _ _ _ (@Xk _ _ _ _ ("list") aH (by decide +kernel) (by rfl) (by rfl) (by decide) (by decide)) Yc (by rfl)) (by rfl)) (by decide +kernel) (by rfl) (by rfl) (by decide) (by decide) (by rfl) (by rfl)) (by intro _;rfl))) (@WG _ _ _ _ (@Yq _ _ _ _ _ _ _ _ (UC hr.units) (@Y8 _ _ _ _ _ _ _ _ _ _ WC (pv 0) Xs (@Xf _ _ _ Yh)) (@YU _ _ _ _ (@Ya _ _ _ _ _ (pv 4) Yc (by rfl))) (Yo _)))).pt (@Yf _ _ _ (@Yl _ _ _ _ WN)) Ym) (@Yd _ _ _ _ _ (@Xo _ _ _ _ _ _ _ _ ae rfl (@XB _ _ _ _ _ _ rfl Ze (@Ya _ _ _ _ _ (@YG _ _ _ _ _ _ _ _ _ _ aA YB (@Ya _ _ _ _ _ (pv 0) Yc (by rfl)) (by decide +kernel) (by rfl) (by rfl) (by decide) (by decide) (by rfl) (by rfl)) Yc (by rfl)) (by rfl)) (@Yu _ _ (5) _ tQ.nd rfl (.inl rfl) (by first | exact .inl rfl | exact .inr rfl | assumption)) (@Yd _ _ _ _ _ (@Yx _ _ _ _ _ _ _ _ (@Wr _ _ _ _ (@YY _ _ _ (@YG _ _ _ _ _ _ _ _ _ _ Z3 YH (@Ya _ _ _ _ _ (@Yv _ _ _ _ _ _ _ Y9 (pv 0) (pv 5) (fun _ _=>rfl)) (@Ya _ _ _ _ _ (@Xk _ _ _ _ ("list") aH (by decide +kernel) (by rfl) (by rfl) (by decide) (by decide)) Yc (by rfl)) (by rfl)) (by decide +kernel) (by rfl) (by rfl) (by decide) (by decide) (by rfl) (by rfl)) (by intro _;rfl))) (@Yf _ _ _ (@Yl _ _ _ _ WN)) Ym) (@Yd _ _ _ _ _ (@Yr _ _ (6) _ _ _ _ tQ.nd rfl (.inl rfl) (@Yn _ _ _ _ _ _ _ _ XG (@Ys _ _ _ _ _ _ _ _ _ _ _ _ ni hr (@Ya _ _ _ _ _ (@Yv _ _ _ _ _ _ _ Y9 (pv 0) (pv 5) (fun _ _=>rfl)) Yc (by rfl)) (by omega) (by rfl) (by rfl) (by decide) (by rfl) (by rfl)) (@Ys _ _ _ _ _ _ _ _ _ _ _ _ pY hr (@Ya _ _ _ _ _ (pv 1) (@Ya _ _ _ _ _ (@YZ _ _ _ _ _ (@Ya _ _ _ _ _ YC (@Ya _ _ _ _ _ (pv 2) Yc (by rfl)) (by rfl))) (@Ya _ _ _ _ _ (@Ys _ _ _ _ _ _ _ _ _ _ _ _ mH hr (@Ya _ _ _ _ _ (@Yv _ _ _ _ _ _ _ Y9 (pv 0) (pv 5) (fun _ _=>rfl)) Yc (by rfl)) (by omega) (by rfl) (by rfl) (by decide) (by rfl) (by rfl)) Yc (by rfl)) (Xh _ _ _ _ _)) (by rfl)) (by omega) (by rfl) (by rfl) (by decide) (by rfl) (by rfl))) (by rfl) (by first | exact .inl rfl | exact .inr rfl | assumption)) (@Yd _ _ _ _ _ (@Yr _ _ (7) _ _ _ _ tQ.nd rfl (.inl rfl) (@Y8 _ _ _ _ _ _ _ _ _ _ WC (@Xj _ _ _ _ _ _ _ ([none,some 3]) ((["_law_row","_law_plan"]:List Str)) _ (YE 0) _ _ (.own (.cap (i:=3) rfl rfl (by first | exact .inl rfl | exact .inr rfl) .nil)) rfl (@YW _ _ _ _ (pv 6)) (fun cl C s₀ H₀ fp pn=>(@Yu _ _ (0) _ (show aI (["_law_row","_law_plan"]:List Str) by decide +kernel) rfl (.inl rfl) (.inr rfl))) (fun cl C s₀ H₀ fp pn=>(@GK _ _ _ (@YY _ _ _ (@Ys _ _ _ _ _ _ _ _ _ _ _ _ Bt hr (@Ya _ _ _ _ _ (@Yv _ _ _ _ _ _ _ (X1 (K:=g.K)) (pv 1) Yh (fun _ _=>rfl)) (@Ya _ _ _ _ _ (@Yv _ _ _ _ _ _ _ (X1 (K:=g.K)) (pv 1) Yh (fun _ _=>rfl)) (@Ya _ _ _ _ _ (@Yv _ _ _ _ _ _ _ (X1 (K:=g.K)) (pv 1) Yh (fun _ _=>rfl)) (@Ya _ _ _ _ _ (pv 0) Yc (by rfl)) (by rfl)) (by rfl)) (by rfl)) (by omega) (by rfl) (by rfl) (by decide) (by rfl) (by rfl)) (by intro _;rfl)))) (fun cl C s₀ H₀ fp pn=>(pv 0)) (by intro x hx;simp at hx;first | (subst hx;exact .inl rfl) | (rcases hx with rfl | rfl<;>exact .inl rfl) | (rcases hx with rfl | rfl | rfl<;>exact .inl rfl) | (rcases hx with rfl | rfl | rfl | rfl<;>exact .inl rfl) | (rcases hx with rfl | rfl | rfl | rfl | rfl<;>exact .inl rfl)) (by rfl) (by decide) (by decide +kernel) (by intro _;rfl)) Xs (@Xf _ _ _ Yh)) (by rfl) (by first | exact .inl rfl | exact .inr rfl | assumption)) (@Yf _ _ _ (@Yx _ _ _ _ _ _ _ _ (@Yq _ _ _ _ _ _ _ _ (UC hr.units) (@Y8 _ _ _ _ _ _ _ _ _ _ WC (pv 0) (@Xf _ _ _ (@Yn _ _ _ _ _ _ _ _ YT (pv 5) Yh)) (@Xf _ _ _ (@Yn _ _ _ _ _ _ _ _ YT (pv 5) Yh))) (pv 7) (Yo _)) (@Yf _ _ _ (@Yl _ _ _ _ WN)) Ym))))) (by intro _;rfl)) (@Yf _ _ _ (@Yl _ _ _ _ (@Ys _ _ _ _ _ _ _ _ _ _ _ _ qt hr (@Ya _ _ _ _ _ (pv 0) Yc (by rfl)) (by omega) (by rfl) (by rfl) (by decide) (by rfl) (by rfl)))))),?_⟩;obtain ⟨B',us,e,hB,Ab,hus⟩:=DV.bD ⟨L,hf⟩
 cases e
 have ul:=hus.length;rw [Ε] at ul
 have okd:∀ l∈ls,(c4 l).depth<=3:=fun l hl=>(way.ok l hl).dep
 have rF:∀ m:List (List Β),(∀ l∈m,(c4 l).depth<=3)->(c4 (m.map .list)).depth<=4:=fun m h=>by
  rw [aE];have:=XV (n:=3) (ds:=m.map .list) fun d hd=>by obtain ⟨l,hl,rfl⟩:=aw.mp hd;exact h l hl
  omega
 refine Yp fun R rr=>?_
 walk_at "rd";refine ⟨_,rfl,_,.lst hB,true,rfl,Y5 (by decide) ⟨_,ao.of hB,fun p0 g0=>⟨few (by decide),fun p1 g1=>?_⟩⟩⟩;have s0:=Ye.aj g0 (.lst (Xr us none (some 1)));have s1:=Ye.aj g1 (.lst [dv]);have h0:=s1 _ _ (Yb (H:=H) (a:=p0) (o := .lst (Xr us none (some 1))));have h1:=Yb (H:=upd H p0 (.lst (Xr us none (some 1)))) (a:=p1) (o := .lst [dv]);have s2:=s0.trans s1;generalize upd (upd H p0 (.lst (Xr us none (some 1)))) p1 (.lst [dv])=H1 at h0 h1 s2;rw [show Xr us none (some 1)=us.take 1 from Wh us 1] at h0
 have d0:DV H1 (.ref p0) (.list [.list ds]):=by
  refine .lst h0 (by rw [ι];omega) ?_;have:=VM (hus.keep s2) 1;rw [<- List.map_take,QG (l:=ls),way.hd] at this
  exact this
 have d1:DV H1 (.ref p1) (.list [.list ds]) := .lst h1 (by simp) (.cons (hdv.keep s2) .nil);have dd:(c4 [.list ds]).depth<=4:=rF [ds] fun l hl=>by rw [ς.mp hl];exact okd _ (Τ way.hd)
 refine ⟨_,d0.den,_,d1.den,by omega,Y5 (by rw [qp (d0.den (K:=g.K))];decide) (rr _ _ (Yp fun R rr=>?_))⟩;refine Ua (n:=ls.length) (fun i σ H'=>(∃ o5 o6 o7,σ=[some (.ref B),some b,some x,some (.ref pl),some dv,o5,o6,o7])/\Ye H H') (fun R r=>?_) (by have:=way.len;omega) ⟨⟨_,_,_,rfl⟩,s2⟩ ?_ ?_
 ·walk_at "rd"
  refine ⟨_,.inl (ao.of (s2 _ _ hB)),?_⟩;rw [ul];exact r
 ·rintro i σ H2 hi ⟨⟨o5,o6,o7,rfl⟩,sm⟩
  have hli:ls[i]?=some (ls[i]'hi):=Χ _;generalize ls[i]'hi=l at hli;have qu:us[i]?=some (us[i]'(by omega)):=Χ _;generalize us[i]'(by omega)=u at qu;have hu:DV H u (.list l):=XQ hus qu (by rw [Ν,hli];rfl);have ok:=way.ok l (Τ hli);obtain ⟨U,zs,rfl,hU,_,_⟩:=id hu.bD;refine Yp fun R rr=>?_
  walk_at "rd";refine ⟨_,ao.of (sm _ _ hB),_,Yk qu,_,rfl,_,.lst (sm _ _ hU),true,rfl,Y5 (by decide) (rr _ _ (Yp fun R rr=>?_))⟩;walk_at "rd";refine ⟨_,ao.of (sm _ _ hB),_,Yk qu,_,l,rfl,hu.keep sm,ok.n,fun r1 H3 s3 hr1=>?_⟩;have qw:=sm.trans s3;refine ⟨few (by decide),fun m gm=>⟨_,ao.of ((qw.trans (.aj gm _)) _ _ hB),_,Yk qu,?_⟩⟩;have s4:=Ye.aj gm (.tup [.str "many",x]);have j8:=qw.trans s4;have hM:DV (upd H3 m (.tup [.str "many",x])) (.ref m) (bR lo (.my p)):=fO Yb (Wm _ (by decide +kernel)) (hx.keep j8);have Bu:=hr1.keep s4;generalize upd H3 m (.tup [.str "many",x])=H4 at s4 j8 hM Bu;have rz:=ok.dep;have jU:=ok.lv;refine ⟨_,_,rfl,hu.keep j8,by omega,fun v' H5 L5 s5 uZ=>⟨b,lo,.ref m,v',.my p,.list l,rfl,hM.keep s5,⟨_,uZ.vl⟩,ok.gd,by simp only [aQ];omega,fun r2 H6 L6 s6 jZ=>?_⟩⟩;obtain ⟨D1,cg,rfl,hD1,_,hs1⟩:=Bu.bD;obtain ⟨D2,bN,rfl,hD2,_,hs2⟩:=DV.bD ⟨_,jZ.vl⟩;have n1:=hs1.length;have n2:=hs2.length;have n3:=K5 ok.n;have n4:=UP ok.gd;have n5:=Af (s := .my p) (by simp only [aQ];omega);rw [Ε] at n1
  have Bv:=s5.trans s6;refine ⟨D1,rfl,D2,rfl,_,Bv _ _ hD1,_,hD2,few (by omega),fun P gP=>rr _ _ (Yp fun R rr=>?_)⟩;have s7:=Ye.aj gP (.lst (cg++bN));have Bw:=(j8.trans Bv).trans s7;have hP:upd H6 P (.lst (cg++bN)) P=some (.lst (cg++bN)):=Yb;have hPs:aV (upd H6 P (.lst (cg++bN))) (cg++bN) ((nxs lo p l).map .list):=by
   rw [nxs,ξ];exact (hs1.keep (Bv.trans s7)).append (hs2.keep s7)
  generalize upd H6 P (.lst (cg++bN))=H7 at s7 Bw hP hPs;have hPl:=hPs.length;rw [Ε] at hPl
  have hPn:(cg++bN).length<=1000:=by rw [Ζ];omega
  generalize cg++bN=ps at hP hPs hPl hPn;walk_at "rd";refine Yd1 (K:=g.K) (xs:=ps) (ps:=nxs lo p l) hPl (brk how bad lo) (fun R r=>by walk_at "rd";exact r P _ (.refl _) (ao.of hP)) (by omega) ?_ ?_ ?_
  ·intro j y q' H' hy hq s8 R r
   have mO:=Bw.trans s8;walk_at "rd";have hpl':=mO _ _ hpl;exact ⟨_,aq.of hpl',_,Yk (j:=0) rfl,_,aq.of hpl',_,Yk (j:=1) rfl,_,aq.of hpl',_,Yk (j:=2) rfl,how,bad,lo,y,p,q',rfl,(XQ hPs hy (by rw [Ν,hq];rfl)).keep s8,ok.nx (Τ hq),fun aF s9=>⟨_,rfl,r aF s9⟩⟩
  ·intro y H' s8 R r
   walk_at "rd";exact r H' (.refl _)
  ·intro D zs' H8 gD s8 hD hz
   have hzd:aV H8 zs' (((nxs lo p l).filter (brk how bad lo)).map .list):=F2.bB (F2.of (by rw [Ε];exact hz.len) fun j y d e1 e2=>by
    rw [Ν] at e2
    obtain ⟨m',hm',rfl⟩:=ο.mp e2;obtain ⟨i',h1,h2⟩:=hz.get j y m' e1 hm';exact (XQ hPs h1 (by rw [Ν,h2];rfl)).keep s8)
   refine ⟨D,rfl,_,ao.of hD,fun E gE=>rr _ _ ?_⟩;have s9:=Ye.aj gE (.lst (Xr zs' none (some 1)));have hE:upd H8 E (.lst (Xr zs' none (some 1))) E=some (.lst (zs'.take 1)):=by rw [Yb];exact congrArg (fun z=>some (HO.lst z)) (Wh zs' 1)
   have vd:=(Bw.trans s8).trans s9;have Bx:=hzd.keep s9;generalize upd H8 E (.lst (Xr zs' none (some 1)))=H9 at s9 hE vd Bx;have dE:DV H9 (.ref E) (.list (ls[i+1]?.toList.map .list)):=by
    refine .lst hE (by rw [ι];omega) ?_;have:=VM Bx 1;rw [<- List.map_take,UR,way.nx i l hli] at this
    exact this
   walk_at "rd";refine ⟨_,ao.of (vd _ _ hB),fun F gF=>?_⟩;have dw:=Ye.aj gF (.lst (Xr us (some ((i:Int)+1)) (some ((i:Int)+2))));have hF:upd H9 F (.lst (Xr us (some ((i:Int)+1)) (some ((i:Int)+2)))) F=some (.lst ((us.drop (i+1)).take 1)):=by
    rw [Yb];refine congrArg (fun z=>some (HO.lst z)) ?_;rw [show (i:Int)+1=((i+1:Nat):Int) by omega,show (i:Int)+2=((i+2:Nat):Int) by omega,Td,show i+2 - (i+1)=1 by omega]
   have dF:DV (upd H9 F (.lst (Xr us (some ((i:Int)+1)) (some ((i:Int)+2))))) (.ref F) (.list (ls[i+1]?.toList.map .list)):=by
    refine .lst hF (by rw [ι];omega) ?_;have:=VM (zF (hus.keep (vd.trans dw)) (i+1)) 1;rw [<- List.map_drop,<- List.map_take,Ye9 (l:=ls)] at this
    exact this
   have dd2:(c4 (ls[i+1]?.toList.map .list)).depth<=4:=rF _ fun m hm=>okd m (by
    cases e:ls[i+1]? with
    | none=>rw [e] at hm;cases hm
    | some z=>rw [e] at hm;rw [ς.mp hm];exact Τ e)
   exact ⟨_,dF.den,_,(dE.keep dw).den,by omega,Y5 (by rw [qp (dF.den (K:=g.K))];decide) (vd.trans dw)⟩
 ·rintro σ H' ⟨⟨o5,o6,o7,rfl⟩,sm⟩
  refine rr _ _ ?_;walk_at "rd";have Oj:L.length<=100000:=by
   cases hf with
   | lst _ _ h =>
    have:=Ql (n:=30) h fun d hd v L h=>by
     obtain ⟨l,hl,rfl⟩:=aw.mp hd;have ok:=way.ok l hl;exact ah (Lp ok.gd h) (Es (by have:=ok.lv;simp only [aQ];omega))
    rw [Ε] at this
    have h2:30*ls.length<=30*1000:=eo _ way.len;rw [am];omega
  have hd4:=rF ls okd;exact ⟨_,_,L,rfl,hf.keep sm,nd,by omega,Oj,fun H2 k=>q H2 fun a o na e=>k a o na (sm _ _ e)⟩
theorem Ygx {lo:Int} {ds:List Β} {bad:Int} (h:0<ds.length):brk 2 (1+bad%(ds.length:Int)) lo ds=true:=by
 have h1:=io bad (show (ds.length:Int)≠0 by omega);have h2:=Int.emod_lt_of_pos bad (show (0:Int)<ds.length by omega);refine List.any_eq_true.mpr ⟨(bad%(ds.length:Int)).toNat,b8.mpr (by omega),?_⟩;unfold fW;rw [if_neg (by decide),if_neg (by decide),if_pos rfl];refine decide_eq_true ?_;unfold bT;rw [Ε,ι];omega
theorem Qk.aN {H:Hp} {P:Addr} (h:Qk H P):∃ ps,H P=some (.aN ps):=by
 rcases h with h | ⟨c1,c2,h,_,_⟩
 ·exact ⟨_,h⟩
 ·exact ⟨_,h⟩
theorem Yfa {k:Nat}  {aO aD aL au aU aJ:Addr} (Z3N:g.gq k "shrunk_deeds" ["book","shape","begin","done","model_begin","model_done","deeds"] (pZ g aD au)) (BJ:g.Fn k "_law_mix" ["_law_script","_law_k","_law_step"] (Lg g.K)) (mH:g.Fn k "_law_copy" ["_law_value"] (Zs 6)) (nj:g.Fn k "_law_deed" ["_law_cell","_law_way","_law_low"] (u6 g.K)) (lG:g.Fn k "_law_shape" ["_law_way","_law_low"] (qb)) (Bt:g.Fn k "_law_breach" ["_law_how","_law_bad","_law_low","_law_deeds"] (j7 g.K)) (Lq:g.Fn k "_law_thing" ["_law_how","_law_bad","_law_low"] (Ks g aJ)) (j9:g.Fn k "_law_walked" ["_law_found","_law_book","_law_shape_here","_law_plan","_law_deeds"] (qm g)) (aA:g.mg "len"=none) (Ze:g.mg "range"=none) (hnd:([aD,au,aJ]:List Addr).Nodup):Uh g k ["_law_script","_law_cell","_law_low","_law_way","_law_how","_law_bad","_law_many","_law_shape_here","_law_deeds","_law_one","_law_other","_law_handed","_law_book","_law_found"] "law" Q2 (V0 g.K [("deed_judge",aO,aD),("shrunk_deeds",aL,au),("_law_thing",aU,aJ)]):=by
 refine fun f_ cdv A outer s H vs Q E hr h=>?_
 obtain ⟨a,ns,rfl,hS,hl,ht,q⟩:=h;refine ⟨_,(@Yd _ _ _ _ _ (@Yr _ _ (1) _ _ _ _ Xp.nd rfl (.inl rfl) (@Ys _ _ _ _ _ _ _ _ _ _ _ _ BJ hr (@Ya _ _ _ _ _ (pv 0) (@Ya _ _ _ _ _ Yh (@Ya _ _ _ _ _ Yh Yc (by rfl)) (by rfl)) (by rfl)) (by omega) (by rfl) (by rfl) (by decide) (by rfl) (by rfl)) (by rfl) (by first | exact .inl rfl | exact .inr rfl | assumption)) (@Yd _ _ _ _ _ (@Yr _ _ (2) _ _ _ _ Xp.nd rfl (.inr rfl) (@Yn _ _ _ _ _ _ _ _ Vc (@Yn _ _ _ _ _ _ _ _ Xc (@Ys _ _ _ _ _ _ _ _ _ _ _ _ BJ hr (@Ya _ _ _ _ _ (pv 0) (@Ya _ _ _ _ _ Yh (@Ya _ _ _ _ _ Yh Yc (by rfl)) (by rfl)) (by rfl)) (by omega) (by rfl) (by rfl) (by decide) (by rfl) (by rfl)) (@Yn _ _ _ _ _ _ _ _ Ur Yh Yh)) (@Yn _ _ _ _ _ _ _ _ VX Yh (@Yn _ _ _ _ _ _ _ _ Ur Yh Yh))) (by rfl) (by first | exact .inl rfl | exact .inr rfl | assumption)) (@Yd _ _ _ _ _ (@Yr _ _ (3) _ _ _ _ Xp.nd rfl (.inr rfl) (@Yn _ _ _ _ _ _ _ _ Xc (pv 1) Yh) (by rfl) (by first | exact .inl rfl | exact .inr rfl | assumption)) (@Yd _ _ _ _ _ (@Yr _ _ (4) _ _ _ _ Xp.nd rfl (.inl rfl) (@Yn _ _ _ _ _ _ _ _ Xc (@Yn _ _ _ _ _ _ _ _ Xt (pv 1) Yh) Yh) (by rfl) (by first | exact .inl rfl | exact .inr rfl | assumption)) (@Yd _ _ _ _ _ (@Yr _ _ (5) _ _ _ _ Xp.nd rfl (.inl rfl) (@Yn _ _ _ _ _ _ _ _ YT Yh (@Yn _ _ _ _ _ _ _ _ Xc (@Yn _ _ _ _ _ _ _ _ Xt (pv 1) Yh) Yh)) (by rfl) (by first | exact .inl rfl | exact .inr rfl | assumption)) (@Yd _ _ _ _ _ (@Yr _ _ (6) _ _ _ _ Xp.nd rfl (.inl rfl) (@Yn _ _ _ _ _ _ _ _ YT Yh (@Yn _ _ _ _ _ _ _ _ Xc (@Yn _ _ _ _ _ _ _ _ Xt (pv 1) Yh) (@Yv _ _ _ _ _ _ _ Y9 (@YU _ _ _ _ (@Ya _ _ _ _ _ Yh (@Ya _ _ _ _ _ Yh (@Ya _ _ _ _ _ Yh (@Ya _ _ _ _ _ Yh Yc (by rfl)) (by rfl)) (by rfl)) (by rfl))) (pv 3) (fun _ _=>rfl)))) (by rfl) (by first | exact .inl rfl | exact .inr rfl | assumption)) (@Yd _ _ _ _ _ (@Yr _ _ (7) _ _ _ _ Xp.nd rfl (.inl rfl) (@Ys _ _ _ _ _ _ _ _ _ _ _ _ lG hr (@Ya _ _ _ _ _ (pv 3) (@Ya _ _ _ _ _ (pv 2) Yc (by rfl)) (by rfl)) (by omega) (by rfl) (by rfl) (by decide) (by rfl) (by rfl)) (by rfl) (by first | exact .inl rfl | exact .inr rfl | assumption)) (@Yd _ _ _ _ _ (@U3 _ (8) _ _ _ _ _ _ _ _ _ ([none,some 3,some 2,some 0]) ((["_law_k","_law_way","_law_low","_law_script"]:List Str)) _ (YE 0) _ _ Xp.nd rfl (.inl rfl) (.own (.cap (i:=3) rfl rfl (by first | exact .inl rfl | exact .inr rfl) (.cap (i:=2) rfl rfl (by first | exact .inl rfl | exact .inr rfl) (.cap (i:=0) rfl rfl (by first | exact .inl rfl | exact .inr rfl) .nil)))) rfl (@XB _ _ _ _ _ _ rfl Ze (@Ya _ _ _ _ _ (pv 6) Yc (by rfl)) (by rfl)) (fun cl C s₀ H₀ fp pn=>(@Yu _ _ (0) _ (show aI (["_law_k","_law_way","_law_low","_law_script"]:List Str) by decide +kernel) rfl (.inl rfl) (.inr rfl))) (fun cl C s₀ H₀ fp pn=>YV) (fun cl C s₀ H₀ fp pn=>(@Ys _ _ _ _ _ _ _ _ _ _ _ _ nj hr (@Ya _ _ _ _ _ (@Ys _ _ _ _ _ _ _ _ _ _ _ _ BJ hr (@Ya _ _ _ _ _ (pv 3) (@Ya _ _ _ _ _ (@Yn _ _ _ _ _ _ _ _ YT Yh (pv 0)) (@Ya _ _ _ _ _ Yh Yc (by rfl)) (by rfl)) (by rfl)) (by omega) (by rfl) (by rfl) (by decide) (by rfl) (by rfl)) (@Ya _ _ _ _ _ (pv 1) (@Ya _ _ _ _ _ (pv 2) Yc (by rfl)) (by rfl)) (by rfl)) (by omega) (by rfl) (by rfl) (by decide) (by rfl) (by rfl))) (by intro x hx;simp at hx;first | (subst hx;exact .inl rfl) | (rcases hx with rfl | rfl<;>exact .inl rfl) | (rcases hx with rfl | rfl | rfl<;>exact .inl rfl) | (rcases hx with rfl | rfl | rfl | rfl<;>exact .inl rfl) | (rcases hx with rfl | rfl | rfl | rfl | rfl<;>exact .inl rfl)) (by rfl) (by decide) (by decide +kernel) (by intro _;rfl) (by rfl) (by first | exact .inl rfl | exact .inr rfl | assumption)) (@Yd _ _ _ _ _ (@Yx _ _ _ _ _ _ _ _ (@Wr _ _ _ _ (@YY _ _ _ (@Ys _ _ _ _ _ _ _ _ _ _ _ _ Bt hr (@Ya _ _ _ _ _ (pv 4) (@Ya _ _ _ _ _ (pv 5) (@Ya _ _ _ _ _ (pv 2) (@Ya _ _ _ _ _ (pv 8) Yc (by rfl)) (by rfl)) (by rfl)) (by rfl)) (by omega) (by rfl) (by rfl) (by decide) (by rfl) (by rfl)) (by intro _;rfl))) (@Yd _ _ _ _ _ (@Yr _ _ (4) _ _ _ _ Xp.nd rfl (.inl rfl) Yh (by rfl) (by first | exact .inl rfl | exact .inr rfl | assumption)) (@Yf _ _ _ (@Yr _ _ (5) _ _ _ _ Xp.nd rfl (.inl rfl) (@Yn _ _ _ _ _ _ _ _ YT Yh (@Yn _ _ _ _ _ _ _ _ Xc (pv 5) (@YG _ _ _ _ _ _ _ _ _ _ aA YB (@Ya _ _ _ _ _ (pv 8) Yc (by rfl)) (by decide +kernel) (by rfl) (by rfl) (by decide) (by decide) (by rfl) (by rfl)))) (by rfl) (by first | exact .inl rfl | exact .inr rfl | assumption)))) Ym) (@Yd _ _ _ _ _ (@Yr _ _ (9) _ _ _ _ Xp.nd rfl (.inl rfl) (@Ys _ _ _ _ _ _ _ _ _ _ _ _ Lq hr (@Ya _ _ _ _ _ Yh (@Ya _ _ _ _ _ (pv 5) (@Ya _ _ _ _ _ (pv 2) Yc (by rfl)) (by rfl)) (by rfl)) (by omega) (by rfl) (by rfl) (by decide) (by rfl) (by rfl)) (by rfl) (by first | exact .inl rfl | exact .inr rfl | assumption)) (@Yd _ _ _ _ _ (@Yr _ _ (10) _ _ _ _ Xp.nd rfl (.inl rfl) (@Ys _ _ _ _ _ _ _ _ _ _ _ _ Lq hr (@Ya _ _ _ _ _ (pv 4) (@Ya _ _ _ _ _ (pv 5) (@Ya _ _ _ _ _ (pv 2) Yc (by rfl)) (by rfl)) (by rfl)) (by omega) (by rfl) (by rfl) (by decide) (by rfl) (by rfl)) (by rfl) (by first | exact .inl rfl | exact .inr rfl | assumption)) (@Yd _ _ _ _ _ (@Yr _ _ (11) _ _ _ _ Xp.nd rfl (.inl rfl) (@Ys _ _ _ _ _ _ _ _ _ _ _ _ mH hr (@Ya _ _ _ _ _ (pv 8) Yc (by rfl)) (by omega) (by rfl) (by rfl) (by decide) (by rfl) (by rfl)) (by rfl) (by first | exact .inl rfl | exact .inr rfl | assumption)) (@Yd _ _ _ _ _ (@Yr _ _ (12) _ _ _ _ Xp.nd rfl (.inl rfl) (@YU _ _ _ _ Yc) (by rfl) (by first | exact .inl rfl | exact .inr rfl | assumption)) (@Yd _ _ _ _ _ (@Yr _ _ (13) _ _ _ _ Xp.nd rfl (.inl rfl) (@YgO _ _ _ _ _ _ _ _ _ _ _ _ _ Z3N hr YgQ (@Ya _ _ _ _ _ (pv 12) (@Ya _ _ _ _ _ (pv 7) (@Ya _ _ _ _ _ (@Yv _ _ _ _ _ _ _ YD (pv 9) Yh (fun _ _=>rfl)) (@Ya _ _ _ _ _ (@Yv _ _ _ _ _ _ _ YD (pv 9) Yh (fun _ _=>rfl)) (@Ya _ _ _ _ _ (@Yv _ _ _ _ _ _ _ YD (pv 10) Yh (fun _ _=>rfl)) (@Ya _ _ _ _ _ (@Yv _ _ _ _ _ _ _ YD (pv 10) Yh (fun _ _=>rfl)) (@Ya _ _ _ _ _ (pv 11) Yc (by rfl)) (by rfl)) (by rfl)) (by rfl)) (by rfl)) (by rfl)) (by rfl)) (by omega) (by rfl) (by rfl) (by decide) (by rfl) (by rfl)) (by rfl) (by first | exact .inl rfl | exact .inr rfl | assumption)) (@Yd _ _ _ _ _ (@Yx _ _ _ _ _ _ _ _ (@Vj _ _ _ _ _ _ _ (@Yq _ _ _ _ _ _ _ _ (UC hr.units) (pv 11) (pv 8) (Yo _)) (@WG _ _ _ _ (@Yq _ _ _ _ _ _ _ _ (UC hr.units) (pv 12) (@YU _ _ _ _ Yc) (Yo _)))).pt (@Yf _ _ _ (@Yl _ _ _ _ WN)) Ym) (@Yf _ _ _ (@Yl _ _ _ _ (@X5 _ _ _ _ _ _ _ (@Ys _ _ _ _ _ _ _ _ _ _ _ _ j9 hr (@Ya _ _ _ _ _ (pv 13) (@Ya _ _ _ _ _ (pv 12) (@Ya _ _ _ _ _ (pv 7) (@Ya _ _ _ _ _ (@YZ _ _ _ _ _ (@Ya _ _ _ _ _ (pv 4) (@Ya _ _ _ _ _ (pv 5) (@Ya _ _ _ _ _ (pv 2) Yc (by rfl)) (by rfl)) (by rfl))) (@Ya _ _ _ _ _ (pv 8) Yc (by rfl)) (Xh _ _ _ _ _)) (by rfl)) (by rfl)) (by rfl)) (by omega) (by rfl) (by rfl) (by decide) (by rfl) (by rfl)) (@X4 _ _ _ _ _ (@Xe _ _ _ _ _ _ _ _ (Hl hr.units) (pv 11) (pv 8) (Yo _))))))))))))))))))))),?_⟩;have hTJ:H aD=some (.aN #[]):=ht _ (.head _);have hTS:H au=some (.aN #[]):=ht _ (.tail _ (.head _));have hTT:H aJ=some (.aN #[]):=ht _ (.tail _ (.tail _ (.head _)));have nJS:aD≠au:=fun z=>by simp [z] at hnd
 have Lr:aD≠aJ:=fun z=>by simp [z] at hnd
 have Lw:au≠aJ:=fun z=>by simp [z] at hnd
 refine Yp fun R rr=>?_
 walk_at "rd";refine ⟨a,ns,0,6,rfl,hS,hl,by omega,by omega,by omega,fun c H1 hc s1=>rr _ _ (Yp fun R rr=>?_)⟩;walk_at "rd";refine ⟨a,ns,1,6,rfl,s1.seq hS,hl,by omega,by omega,by omega,fun z H2 hz s2=>⟨tU,_,rfl,by decide +kernel,tU,.inr (.inl (by decide)),rr _ _ (Yp fun R rr=>?_)⟩⟩;generalize (z:Int)%10^jp 60 - 5*10^jp 59=lo;walk_at "rd";obtain ⟨way,hw,ew⟩:∃ m:Nat,m<4/\(c:Int)%4=(m:Int):=⟨((c:Int)%4).toNat,by omega,by omega⟩;rw [ew];refine ⟨by decide,rr _ _ (Yp fun R rr=>?_)⟩;walk_at "rd";obtain ⟨how,hh,eh⟩:∃ m:Nat,m<4/\(c:Int) / 4%4=(m:Int):=⟨((c:Int) / 4%4).toNat,by omega,by omega⟩;rw [eh];refine ⟨Xm (by decide) (by decide),by decide,rr _ _ (Yp fun R rr=>?_)⟩;walk_at "rd";refine ⟨Xm (by decide) (by decide),by decide,rr _ _ (Yp fun R rr=>?_)⟩;generalize 1+(c:Int) / 16%20=bad;walk_at "rd";refine ⟨Xm (by decide) (by decide),few (by decide),fun p0 g0=>?_⟩;have s3:=Ye.aj g0 (.lst [.int 4,.int 4,.int 4,.int 3]);obtain ⟨j,hj0,hj4,ej⟩:∃ j:Int,0<j/\j<=4/\([.int 4,.int 4,.int 4,.int 3]:List V)[way]?=some (.int j):=by
  match way,hw with
  | 0,_=>exact ⟨4,by decide,by decide,rfl⟩
  | 1,_=>exact ⟨4,by decide,by decide,rfl⟩
  | 2,_=>exact ⟨4,by decide,by decide,rfl⟩
  | 3,_=>exact ⟨3,by decide,by decide,rfl⟩
 have m1:=io ((c:Int) / 320) (show j≠0 by omega);have m2:=Int.emod_lt_of_pos ((c:Int) / 320) hj0;obtain ⟨many,hm1,hm4,em⟩:∃ m:Nat,1<=m/\m<=4/\1+(c:Int) / 320%j=(m:Int):=⟨(1+(c:Int) / 320%j).toNat,by omega,by omega,by omega⟩;refine ⟨_,ao.of Yb,_,Yk ej,j,rfl,hj0,?_⟩;rw [em];refine rr _ _ (Yp fun R rr=>?_);have qw:=(s1.trans s2).trans s3;generalize upd H2 p0 (.lst [.int 4,.int 4,.int 4,.int 3])=H3 at s3 qw;walk_at "rd";refine ⟨way,lo,rfl,hw,fun x H4 s4 hx=>rr _ _ (Yp fun R rr=>?_)⟩;have j8:=qw.trans s4;walk_at "rd";refine Wy (n:=many) (fun D i zs H'=>Ye H4 H'/\H' D=some (.lst zs)/\∃ ds L,bA H4 H' zs ds L/\(∀ a∈L,a≠D)/\(∀ d∈ds,gd lo (j6 way) d)/\ds.length=i) (fun R r=>by walk_at "rd";exact r) (by omega) ?_ ?_ ?_ ?_
 ·intro D hD
  exact ⟨.aj hD _,Yb,[],[],⟨.nil,.nil,fun a h=>by cases h⟩,(fun a h=>by cases h),(fun d h=>by cases h),rfl⟩
 ·rintro D i zs H' ⟨sm,hd,ds,L,ow,nD,hg,e⟩
  exact ⟨by rw [ow.vl.length];exact e,hd⟩
 ·rintro D i zs H' hD hi ⟨sm,hd,ds,L,ow,nD,hg,e⟩ R r
  walk_at "rd";refine ⟨a,ns,2+i,6,by rw [cK];rfl,(j8.trans sm).seq hS,hl,by omega,by omega,by omega,fun y H5 hy s5=>⟨y,way,lo,rfl,hw,fun v d H6 L6 s6 jZ hgd=>?_⟩⟩;obtain ⟨o1,o2⟩:=ow.put (zs':=zs++[v]) nD sm (s5.trans s6) ⟨jZ.vl,jZ.nd,fun b hb=>s5.free (jZ.new b hb)⟩ hd;refine r v H6 (s6 _ _ (s5 _ _ hd)) ⟨.aP hD (sm.trans (s5.trans s6)) _,Yb,_,_,o1,o2,fun z hz=>?_,by rw [Ζ,e];rfl⟩;rcases η.mp hz with hz | hz
  ·exact hg z hz
  ·rw [ς.mp hz];exact hgd
 rintro D zs H5 hD ⟨s5,hd,ds,L,ow,nD,hg,el⟩;refine rr _ _ (Yp fun R rr=>?_);have zl:=ow.vl.length;have hds:DV H5 (.ref D) (.list ds) := .lst hd (by omega) ⟨_,ow.vl⟩;have hp:j6 way ≠ .rw:=by
  match way,hw with
  | 0,_=>intro z;cases z
  | 1,_=>intro z;cases z
  | 2,_=>intro z;cases z
  | 3,_=>intro z;cases z
 have jU:aQ (j6 way)<=2:=by
  match way,hw with
  | 0,_=>decide
  | 1,_=>decide
  | 2,_=>decide
  | 3,_=>decide
 have ok:bW lo (j6 way) ds:=⟨by omega,hg,hp,jU⟩;have qd:=j8.trans s5;have Lz:=hx.keep s5;generalize j6 way=p at ok hx Lz;clear hg hp jU ow nD;have key:∀ (how bad:Int) H',how<4->brk how bad lo ds=true->Ye H5 H'->R [some (.ref a),some (.int (c:Nat)),some (.int lo),some (.int (way:Nat)),some (.int how),some (.int bad),some (.int (many:Nat)),some x,some (.ref D),none,none,none,none,none] H':=fun how bad H6 h4 hb s6=>rr _ _ ?_
 ·walk_at "rd"
  refine ⟨how,bad,lo,.ref D,p,ds,rfl,hds,ok,fun H6 s6=>⟨_,rfl,?_⟩⟩
  cases hb:brk how bad lo ds with
  | false =>
   refine Xx rfl ⟨_,.inl (ao.of (s6 _ _ hd)),by omega,?_⟩;rw [zl];exact key 2 _ H6 (by decide) (Ygx (by omega)) s6
  | true=>exact Y5 (by decide) (key how bad H6 (by omega) hb s6)
 have BK:=qd.trans s6;have LK:Qk H6 aJ := .inl (BK _ _ hTT);have tj6:XA H6 aD := .inl (BK _ _ hTJ);have ts6:XJ H6 au := .inl (BK _ _ hTS);have Ol:=hds.keep s6;have hx6:=Lz.keep s6;refine Yp fun R rr=>?_
 walk_at "rd";refine ⟨4,bad,lo,rfl,LK,fun t1 b1 f1 H7 hb1 hf1 ht1 LQ k7=>rr _ _ (Yp fun R rr=>?_)⟩;obtain ⟨ps6,BL⟩:=LK.aN;obtain ⟨ps7,BP⟩:=LQ.aN;have kt7:Kt H6 H7:=Vi k7 BL;walk_at "rd";refine ⟨how,bad,lo,rfl,LQ,fun t2 b2 f2 H8 hb2 hf2 xR tt8 k8=>rr _ _ (Yp fun R rr=>?_)⟩;have BR:Kt H7 H8:=Vi k8 BP;have tj8:=(tj6.but k7 BL Lr).but k8 BP Lr;have ts8:=(ts6.but k7 BL Lw).but k8 BP Lw;have BW:=kt7.trans BR;have BX:=Ol.kt BW;have hx8:=hx6.kt BW;walk_at "rd";have rz:=ok.dep;refine ⟨_,_,rfl,BX,by omega,fun hv H9 L9 s9 ow9=>rr _ _ (Yp fun R rr=>?_)⟩;walk_at "rd";refine ⟨few (by decide),fun B gB=>rr _ _ (Yp fun R rr=>?_)⟩;have sB:=Ye.aj gB (.lst []);have hB:upd H9 B (.lst []) B=some (.lst []):=Yb;have dw:=s9.trans sB;have nq:DV (upd H9 B (.lst [])) hv (.list ds):=DV.keep ⟨_,ow9.vl⟩ sB;generalize upd H9 B (.lst [])=iM at hB dw nq;have n7:NL H7 iM:=Aq (BR.trans (WA dw));have n8:NL H8 iM:=WB dw;have op:Ops g iM b1 f1 b2 f2 how bad bad lo:=⟨hb1.nl n7,hf1.nl n7,hb2.nl n8,hf2.nl n8,h4⟩;have BZ:=dw _ _ (BR.tup ht1);have Ca:=dw _ _ xR;have vf:=BX.keep dw;have Cd:=hx8.keep dw;have Ce:=tj8.keep dw;have Cg:=ts8.keep dw;walk_at "rd";refine ⟨_,aq.of BZ,_,Yk (j:=0) rfl,_,aq.of BZ,_,Yk (j:=1) rfl,_,aq.of Ca,_,Yk (j:=0) rfl,_,aq.of Ca,_,Yk (j:=1) rfl,?_⟩;refine ⟨.ref B,x,hv,b1,f1,b2,f2,how,bad,bad,lo,p,ds,rfl,Cd,op,nq,ok,hb,Ce,Cg,nJS,fun F ls sH L11 k11 rG Om afQ afR=>rr _ _ (Yp fun R rr=>?_)⟩;have kj:Kt iM sH:=k11.kt Ce.aN Cg.aN;have Ci:=nq.kt kj;have vg:=vf.kt kj;have Oo:=Cd.kt kj;have Oq:=kj.lst hB;walk_at "rd";refine ⟨_,Ci.den,_,vg.den,by omega,?_⟩;rw [qp (Ci.den (K:=g.K))];refine Y5 (by decide) ?_;refine ⟨few (by decide),fun E gE=>?_⟩;have sE:=Ye.aj gE (.lst []);have hE:upd sH E (.lst []) E=some (.lst []):=Yb;generalize upd sH E (.lst [])=LR at sE hE;have dB:DV LR (.ref B) (.list []) := .lst (sE _ _ Oq) (by simp) .nil;have dE:DV LR (.ref E) (.list []) := .lst hE (by simp) .nil;refine ⟨_,dB.den,_,dE.den,by simp [aE,χ],?_⟩;rw [qp (dB.den (K:=g.K))];refine Y5 (by decide) (rr _ _ ?_);walk_at "rd";refine ⟨few (by decide),fun pl gp=>?_⟩;have sP:=Ye.aj gp (.tup [.int how,.int bad,.int lo]);have s12:=sE.trans sP;refine ⟨F,pl,.ref B,x,.ref D,L11,how,bad,lo,p,ds,ls,rfl,rG.vl.keep s12,rG.nd,Oo.keep s12,Yb,vg.keep s12,Om,fun Mf k13=>?_⟩;have k:Kt iM Mf:=fun b o n e=>k13 b o (fun hm=>by rw [rG.new b hm] at e;cases e) (s12 _ _ (kj b o n e))
 have d1:=(nq.kt k).den (K:=g.K);refine ⟨_,rfl,Xx rfl ⟨_,d1,_,(vf.kt k).den,by omega,?_⟩⟩;rw [qp d1];exact q Mf
theorem cg {α:Type} {us:List α} (h:us.length=1):∃ a0,us=[a0]:=by
 match us,h with
 | [a0],_=>exact ⟨_,rfl⟩
theorem bN {α:Type} {us:List α} (h:us.length=2):∃ a0 a1,us=[a0,a1]:=by
 match us,h with
 | [a0,a1],_=>exact ⟨_,_,rfl⟩
theorem dX {α:Type} {us:List α} (h:us.length=3):∃ a0 a1 a2,us=[a0,a1,a2]:=by
 match us,h with
 | [a0,a1,a2],_=>exact ⟨_,_,_,rfl⟩
theorem Cj {α:Type} {us:List α} (h:us.length=4):∃ a0 a1 a2 a3,us=[a0,a1,a2,a3]:=by
 match us,h with
 | [a0,a1,a2,a3],_=>exact ⟨_,_,_,_,rfl⟩
theorem Mg {α:Type} {us:List α} (h:us.length=5):∃ a0 a1 a2 a3 a4,us=[a0,a1,a2,a3,a4]:=by
 match us,h with
 | [a0,a1,a2,a3,a4],_=>exact ⟨_,_,_,_,_,rfl⟩
theorem us7 {α:Type} {us:List α} (h:us.length=7):∃ a0 a1 a2 a3 a4 a5 a6,us=[a0,a1,a2,a3,a4,a5,a6]:=by
 match us,h with
 | [a0,a1,a2,a3,a4,a5,a6],_=>exact ⟨_,_,_,_,_,_,_,rfl⟩
structure Top (K:Κ) (mg:Str->Option Α) (Z4:Addr) (Z0:Addr) (Z1:Addr) (Z2:Addr) (aO aD:Addr) (aL au:Addr) (aU aJ:Addr):Prop where
 Ck:∀ P w base,(Gx.mk P w K mg base).Raw "is_whole_number" "is_whole_number" xU ["thing"]
 Cm:∀ P w base,(Gx.mk P w K mg base).Raw "branch_place" "branch_place" xV ["branches","mark"]
 Cp:∀ P w base,(Gx.mk P w K mg base).Raw "has_mark" "has_mark" xX ["branches","value"]
 Cq:∀ P w base,(Gx.mk P w K mg base).Raw "has_form" "has_form" xY ["shape","value"]
 Cr:∀ P w base,(Gx.mk P w K mg base).Raw "things_within" "things_within" xZ ["book","shape","value"]
 Cu:∀ P w base,(Gx.mk P w K mg base).Raw "sum_of_sizes" "sum_of_sizes" yc ["keys"]
 Cv:∀ P w base,(Gx.mk P w K mg base).Raw "list_key" "list_key" yd ["shape","keys"]
 Cw:∀ P w base,(Gx.mk P w K mg base).Raw "key_made" "key_made" yh ["shape","value","keys"]
 kE:∀ P w base,(Gx.mk P w K mg base).Raw "weighed" "weighed" yj ["book","shape","value"]
 Cy:∀ P w base,(Gx.mk P w K mg base).Raw "key_or_refusal" "key_or_refusal" yr ["book","shape","value"]
 kJ:∀ P w base,(Gx.mk P w K mg base).Raw "fits" "fits" yt ["book","shape","value"]
 Cz:∀ P w base,(Gx.mk P w K mg base).Raw "size_of" "size_of" yw ["book","shape","value"]
 CG:∀ P w base,(Gx.mk P w K mg base).Raw "refuse_no_value" "refuse_no_value" yu ["book","shape","value"]
 CJ:∀ P w base,(Gx.mk P w K mg base).jH "Maker" "__init__" "Maker.__init__" zB ["self"]
 CK:∀ P w base,(Gx.mk P w K mg base).dz "RowTable" Z1 "RowTable.__init__" ZW ["self","parts"]
 CN:∀ P w base,(Gx.mk P w K mg base).dz "RowMaker" Z0 "RowMaker.__init__" ZY ["self","parts"]
 CP:∀ P w base,(Gx.mk P w K mg base).dz "Lister" Z4 "Lister.__init__" zj ["self","book"]
 CQ:∀ P w base,(Gx.mk P w K mg base).bC Z1 "add_size" "RowTable.add_size" ZX ["self","size"]
 CT:∀ P w base,(Gx.mk P w K mg base).bC Z1 "ways_at" "RowTable.ways_at" zq ["self","place","left"]
 CV:∀ P w base,(Gx.mk P w K mg base).bC Z0 "reckoned" "RowMaker.reckoned" ZZ ["self","size"]
 CW:∀ P w base,(Gx.mk P w K mg base).bC Z0 "count_at" "Maker.count_at" zE ["self","size"]
 CZ:∀ P w base,(Gx.mk P w K mg base).bC Z0 "value_at" "RowMaker.value_at" zu ["self","size","number"]
 Dc:∀ P w base,(Gx.mk P w K mg base).Raw "least_below" "least_below" yC ["maker","below"]
 Dd:∀ P w base,(Gx.mk P w K mg base).Raw "parts_of" "parts_of" xT ["shape"]
 Df:∀ P w base,(Gx.mk P w K mg base).bC Z4 "new_maker" "Lister.new_maker" zp ["self","shape"]
 Dg:∀ P w base,(Gx.mk P w K mg base).bC Z4 "maker_of" "Lister.maker_of" zm ["self","shape"]
 Dh:∀ P w base,(Gx.mk P w K mg base).dz "Stepper" Z2 "Stepper.__init__" zx ["self","book"]
 ZI:∀ P w base,(Gx.mk P w K mg base).bC Z2 "leasts_ahead" "Stepper.leasts_ahead" ZH ["self","shape","value"]
 Di:∀ P w base,(Gx.mk P w K mg base).Raw "whole_steps" "whole_steps" yD ["low","value"]
 Dj:∀ P w base,(Gx.mk P w K mg base).Raw "without_each" "without_each" yE ["things"]
 Dk:∀ P w base,(Gx.mk P w K mg base).Raw "with_each_step" "with_each_step" yF ["things","inner"]
 Dl:∀ P w base,(Gx.mk P w K mg base).bC Z2 "steps_by" "Stepper.steps_by" zy ["self","shape","value","inner"]
 Zk:∀ P w base,(Gx.mk P w K mg base).bC Z2 "steps_from" "Stepper.steps_from" ZQ ["self","shape","value"]
 ZT:∀ P w base,(Gx.mk P w K mg base).Raw "copied" "copied" Um ["thing"]
 ZE:∀ P w base,(Gx.mk P w K mg base).Raw "_law_copy" "_law_copy" yP ["_law_value"]
 Dm:∀ P w base,(Gx.mk P w K mg base).Raw "steps_of" "steps_of" yG ["book","shape","value"]
 Dn:∀ P w base,(Gx.mk P w K mg base).Raw "is_truth" "is_truth" yq ["thing"]
 kO:∀ P w base,(Gx.mk P w K mg base).Raw "same" "same" yp ["one","other"]
 Dp:∀ P w base,(Gx.mk P w K mg base).Raw "_law_weight" "_law_weight" yU ["_law_deed_here","_law_low"]
 Dq:∀ P w base,(Gx.mk P w K mg base).Raw "_law_flag" "_law_flag" yV ["_law_how","_law_bad","_law_weights"]
 iB:∀ P w base,(Gx.mk P w K mg base).Raw "apart" "apart" Qh ["begin","done","model_begin","model_done","deeds"]
 Dr:∀ P w base,(Gx.mk P w K mg base).dD "_law_thing" "_law_thing" oX ["_law_how","_law_bad","_law_low"] aU
 kW:∀ P w base,(Gx.mk P w K mg base).Raw "cuts" "cuts" yJ ["deeds"]
 iC:∀ P w base,(Gx.mk P w K mg base).Raw "holds" "holds" Qi ["judge","value"]
 Ds:∀ P w base,(Gx.mk P w K mg base).Raw "first_breach" "first_breach" yH ["judge","values"]
 Dt:∀ P w base,(Gx.mk P w K mg base).Raw "shrunk_by" "shrunk_by" yI ["judge","value","values_next"]
 Du:∀ P w base,(Gx.mk P w K mg base).dD "deed_judge" "deed_judge" tH ["begin","done","model_begin","model_done"] aO
 Dv:∀ P w base,(Gx.mk P w K mg base).dD "shrunk_deeds" "shrunk_deeds" ZM ["book","shape","begin","done","model_begin","model_done","deeds"] aL
 Dw:∀ P w base,(Gx.mk P w K mg base).Raw "_law_mix" "_law_mix" yL ["_law_script","_law_k","_law_step"]
 Dy:∀ P w base,(Gx.mk P w K mg base).Raw "_law_deed" "_law_deed" yQ ["_law_cell","_law_way","_law_low"]
 Dz:∀ P w base,(Gx.mk P w K mg base).Raw "_law_shape" "_law_shape" yS ["_law_way","_law_low"]
 DG:∀ P w base,(Gx.mk P w K mg base).Raw "_law_breach" "_law_breach" yW ["_law_how","_law_bad","_law_low","_law_deeds"]
 DN:∀ P w base,(Gx.mk P w K mg base).Raw "_law_cuts" "_law_cuts" za ["_law_deeds"]
 ZA:∀ P w base,(Gx.mk P w K mg base).Raw "_law_lists" "_law_lists" yM ["_law_value"]
 DP:∀ P w base,(Gx.mk P w K mg base).Raw "_law_own" "_law_own" yO ["_law_value"]
 DQ:∀ P w base,(Gx.mk P w K mg base).Raw "_law_walked" "_law_walked" zf ["_law_found","_law_book","_law_shape_here","_law_plan","_law_deeds"]
 Zm:Cls K Z4
 Zq:Yt K Z4 "book"
 Zg:Yt K Z4 "makers"
 Z7:Cls K Z0
 Z6:Yt K Z0 "counts"
 Z9:Yt K Z0 "parts"
 Za:Yt K Z0 "table"
 Zf:Cls K Z1
 Zh:Yt K Z1 "parts"
 Zd:Yt K Z1 "ways"
 Zc:Cls K Z2
 Zb:Yt K Z2 "book"
 Z8:Yt K Z2 "lister"
 iQ:∀ P w base,(Gx.mk P w K mg base).jE "OF_ONE_PART" ([.str "many",.str "rising",.str "unlike"])
 gK:mg "all"=none
 cT:mg "bool"=none
 cB:mg "dict"=none
 Zi:mg "enumerate"=none
 cF:mg "int"=none
 Z3:mg "isinstance"=none
 aA:mg "len"=none
 aH:mg "list"=none
 Ze:mg "range"=none
 cG:mg "str"=none
 cZ:mg "sum"=none
 Z5:mg "tuple"=none
 gM:mg "zip"=none
theorem Yfb {K:Κ} {mg:Str->Option Α} {Z4 Z0 Z1 Z2:Addr} {aO aD:Addr} {aL au:Addr} {aU aJ:Addr}  (t:Top K mg Z4 Z0 Z1 Z2 aO aD aL au aU aJ) (P:Ο) (w:ε) (base:Heap) (hB:Bm mg base) (jf:eP base aO aD) (iw:eP base aL au) (kY:eP base aU aJ) (hnd:([aD,au,aJ]:List Addr).Nodup) :
  Uh (Gx.mk P w K mg base) 62 ["_law_script","_law_cell","_law_low","_law_way","_law_how","_law_bad","_law_many","_law_shape_here","_law_deeds","_law_one","_law_other","_law_handed","_law_book","_law_found"] "law" Q2 (V0 K [("deed_judge",aO,aD),("shrunk_deeds",aL,au),("_law_thing",aU,aJ)]):=by
 have Mh:=Z2S (t.Ck P w base) t.cT t.cF t.Z3;have vh:=Z3y (t.Cm P w base) t.Zi;have nu:=Ya2 (k:=1) (t.Cp P w base) (vh.mono (by decide)) t.Z3 t.aA t.cG t.Z5;have vm:=Ya3 (k:=2) (t.Cq P w base) (Mh.mono (by decide)) (nu.mono (by decide)) t.gK t.Z3 t.aA t.aH t.cG t.Z5 (t.iQ P w base);have Zp:=Z3q (k:=1) (t.Cr P w base) (vh.mono (by decide)) t.aH t.gM (t.iQ P w base);have Mi:=Z3z (t.Cu P w base) t.cZ;have nA:=Ya4 (k:=1) (t.Cv P w base) (Mi.mono (by decide)) t.aA t.Z5;have vo:=Ya5 (k:=2) (t.Cw P w base) (vh.mono (by decide)) (Mi.mono (by decide)) (nA.mono (by decide)) t.aA t.Z5;have lH:=ud (m:=0) (k:=3) (t.kE P w base) (vm.mono (by decide)) (Zp.mono (by decide)) (vo.mono (by decide)) ((t.kE P w base).none (fun _ _ _ _ h=>YcB h));have lJ:=ud (m:=1) (k:=4) (t.kE P w base) (vm.mono (by decide)) (Zp.mono (by decide)) (vo.mono (by decide)) (lH.mono (by decide));have lK:=ud (m:=2) (k:=5) (t.kE P w base) (vm.mono (by decide)) (Zp.mono (by decide)) (vo.mono (by decide)) (lJ.mono (by decide));have iZ:=ud (m:=3) (k:=6) (t.kE P w base) (vm.mono (by decide)) (Zp.mono (by decide)) (vo.mono (by decide)) (lK.mono (by decide));have Z3t:=Z3d (k:=7) (t.Cy P w base) (iZ.mono (by decide));have DR:=Ygm (k:=7) (t.kJ P w base) (iZ.mono (by decide));have qx:=YcC (k:=8) (t.Cz P w base) (Z3t.mono (by decide));have Mj:=Z2U (k:=8) (t.CG P w base) (DR.mono (by decide));have Z3u:=Z3e (Z0:=Z0) (Z1:=Z1) (t.CJ P w base) t.Z7 t.Z6 t.Z9 t.Za;have Z2D:=Z26 (Z0:=Z0) (Z1:=Z1) (t.CK P w base) t.aA t.Ze t.Zf t.Zh t.Zd;have Z2E:=Z27 (k:=2) (Z0:=Z0) (Z1:=Z1) (t.CN P w base) Z2D (by decide) (Z3u.mono (by decide)) t.Z7 t.Z6 t.Z9 t.Za;have Z3j:=Z2V (Z4:=Z4) (t.CP P w base) t.Zm t.Zq t.Zg;have Z2F:=Z28 (Z0:=Z0) (Z1:=Z1) (t.CQ P w base) t.aA t.Ze t.Zf t.Zh t.Zd;have Z36:=Z2t (k:=1) (Z0:=Z0) (Z1:=Z1) (t.CT P w base) (Z2F.mono (by decide)) t.aA t.Zf t.Zh t.Zd;have Z2G:=Z29 (k:=2) (Z0:=Z0) (Z1:=Z1) (t.CV P w base) (Z36.mono (by decide)) t.Z7 t.Z6 t.Z9 t.Za t.Zf t.Zh t.Zd;have Z2H:=Z2a (k:=3) (Z0:=Z0) (Z1:=Z1) (t.CW P w base) (Z2G.mono (by decide)) t.aA t.Z7 t.Z6 t.Z9 t.Za;have Z2I:=Z2b (Z0:=Z0) (Z1:=Z1) (t.CZ P w base) t.Zi t.Z5 t.Z7 t.Z6 t.Z9 t.Za;have jg:=Z3L (k:=4) (Z0:=Z0) (Z1:=Z1) (t.Dc P w base) (Z2I.mono (by decide)) (Z2H.mono (by decide)) t.Ze t.Z7 t.Z6 t.Z9 t.Za;have nF:=Ya6 (t.Dd P w base) t.aH;have Z37:=Z2y (k:=4) (Z4:=Z4) (Z0:=Z0) (Z1:=Z1) (t.Df P w base) (nF.mono (by decide)) Z2E (by decide);have Z3k:=Z2X (k:=5) (Z4:=Z4) (Z0:=Z0) (Z1:=Z1) (t.Dg P w base) (Z37.mono (by decide)) t.Zm t.Zq t.Zg;have Z38:=Z2A (k:=2) (Z4:=Z4) (Z0:=Z0) (Z1:=Z1) (Z2:=Z2) (t.Dh P w base) Z3j (by decide) t.Zc t.Zb t.Z8;have Z1J:=Z1v (k:=9) (Z4:=Z4) (Z0:=Z0) (Z1:=Z1) (Z2:=Z2) (t.ZI P w base) (vh.mono (by decide)) (qx.mono (by decide)) (jg.mono (by decide)) (Z3k.mono (by decide)) t.Zm t.Zq t.Zg t.Zc t.Zb t.Z8;have jh:=Z3M (t.Di P w base);have Z3O:=Z3D (t.Dj P w base) t.aA t.Ze;have Z3v:=Z3h (t.Dk P w base) t.Zi;have ZG:=Z2B (k:=10) (Z4:=Z4) (Z0:=Z0) (Z1:=Z1) (Z2:=Z2) (t.Dl P w base) (jh.mono (by decide)) (Z3O.mono (by decide)) (Z3v.mono (by decide)) (Z1J.mono (by decide)) t.aH t.Z5 t.Zc t.Zb t.Z8;have Z1K:=ZD (m:=0) (k:=11) (Z4:=Z4) (Z0:=Z0) (Z1:=Z1) (Z2:=Z2) (t.Zk P w base) (Zp.mono (by decide)) ((t.Zk P w base).none (fun _ _ _ _ h=>Ep h)) (ZG.mono (by decide)) t.Zc t.Zb t.Z8;have Z1L:=ZD (m:=1) (k:=12) (Z4:=Z4) (Z0:=Z0) (Z1:=Z1) (Z2:=Z2) (t.Zk P w base) (Zp.mono (by decide)) (Z1K.mono (by decide)) (ZG.mono (by decide)) t.Zc t.Zb t.Z8;have Z1M:=ZD (m:=2) (k:=13) (Z4:=Z4) (Z0:=Z0) (Z1:=Z1) (Z2:=Z2) (t.Zk P w base) (Zp.mono (by decide)) (Z1L.mono (by decide)) (ZG.mono (by decide)) t.Zc t.Zb t.Z8;have Z2m:=ZD (m:=3) (k:=14) (Z4:=Z4) (Z0:=Z0) (Z1:=Z1) (Z2:=Z2) (t.Zk P w base) (Zp.mono (by decide)) (Z1M.mono (by decide)) (ZG.mono (by decide)) t.Zc t.Zb t.Z8;have nG:=mG (m:=0) (k:=0) (t.ZT P w base) ((t.ZT P w base).none (fun _ _ _ _ h=>Qz h)) t.cB t.Z3 t.aH t.Z5;have nH:=mG (m:=1) (k:=1) (t.ZT P w base) (nG.mono (by decide)) t.cB t.Z3 t.aH t.Z5;have nJ:=mG (m:=2) (k:=2) (t.ZT P w base) (nH.mono (by decide)) t.cB t.Z3 t.aH t.Z5;have nO:=mG (m:=3) (k:=3) (t.ZT P w base) (nJ.mono (by decide)) t.cB t.Z3 t.aH t.Z5;have nQ:=mG (m:=4) (k:=4) (t.ZT P w base) (nO.mono (by decide)) t.cB t.Z3 t.aH t.Z5;have qy:=mG (m:=5) (k:=5) (t.ZT P w base) (nQ.mono (by decide)) t.cB t.Z3 t.aH t.Z5;have kZ:=ZU (m:=0) (k:=0) (t.ZE P w base) ((t.ZE P w base).none (fun _ _ _ _ h=>YeU h)) t.Z3 t.aH t.Z5;have lg:=ZU (m:=1) (k:=1) (t.ZE P w base) (kZ.mono (by decide)) t.Z3 t.aH t.Z5;have lq:=ZU (m:=2) (k:=2) (t.ZE P w base) (lg.mono (by decide)) t.Z3 t.aH t.Z5;have lu:=ZU (m:=3) (k:=3) (t.ZE P w base) (lq.mono (by decide)) t.Z3 t.aH t.Z5;have lA:=ZU (m:=4) (k:=4) (t.ZE P w base) (lu.mono (by decide)) t.Z3 t.aH t.Z5;have Ml:=ZU (m:=5) (k:=5) (t.ZE P w base) (lA.mono (by decide)) t.Z3 t.aH t.Z5;have Mp:=Ya7 (k:=15) (Z4:=Z4) (Z0:=Z0) (Z1:=Z1) (Z2:=Z2) (t.Dm P w base) (qy.mono (by decide)) (Mj.mono (by decide)) Z38 (by decide) (Z2m.mono (by decide)) t.Zc t.Zb t.Z8;have nR:=Ya8 (t.Dn P w base) t.cT t.Z3;have DW:=Ygp (k:=1) (t.kO P w base) (Mh.mono (by decide)) (nR.mono (by decide));have Mq:=QN (t.Dp P w base) t.Z3 t.aA t.aH t.cG t.Z5;have Mr:=Ya9 (t.Dq P w base) t.aA t.cZ;have vB:=YeW (k:=10) (t.iB P w base) (qy.mono (by decide)) (DW.mono (by decide)) (by decide) t.Zi;have lM:=YaJ (k:=1) (aU:=aU) (aJ:=aJ) (t.Dr P w base) hB kY (Mq.mono (by decide)) (Mr.mono (by decide)) t.cF t.aA;have DX:=Ygr (k:=6) (t.kW P w base) (qy.mono (by decide)) t.aA t.Ze;have vC:=YeZ (k:=30) (t.iC P w base) (qy.mono (by decide)) (by decide);have Z3P:=Z3E (k:=31) (t.Ds P w base) (vC.mono (by decide));have lN:=YaN (k:=60) (t.Dt P w base) (qy.mono (by decide)) (Z3P.mono (by decide)) (by decide);have lC:=QO (k:=11) (aO:=aO) (aD:=aD) (t.Du P w base) hB jf (vB.mono (by decide));have Z3Q:=Z3F (k:=61) (aD:=aD) (aL:=aL) (au:=au) (t.Dv P w base) hB iw (lC.mono (by decide)) (Mj.mono (by decide)) (Mp.mono (by decide)) (lN.mono (by decide)) (DX.mono (by decide));have qz:=YcI (t.Dw P w base);have nU:=Yba (t.Dy P w base) t.Ze;have lO:=YaO (t.Dz P w base);have Ms:=QP (k:=1) (t.DG P w base) (Mq.mono (by decide)) (Mr.mono (by decide));have nY:=Ybb (t.DN P w base) t.aA t.Ze;have ji:=ZO (m:=0) (k:=0) (t.ZA P w base) ((t.ZA P w base).none (fun _ _ _ _ h=>Ye7 h)) t.Z3 t.aH t.Z5;have jk:=ZO (m:=1) (k:=1) (t.ZA P w base) (ji.mono (by decide)) t.Z3 t.aH t.Z5;have jl:=ZO (m:=2) (k:=2) (t.ZA P w base) (jk.mono (by decide)) t.Z3 t.aH t.Z5;have jm:=ZO (m:=3) (k:=3) (t.ZA P w base) (jl.mono (by decide)) t.Z3 t.aH t.Z5;have jq:=ZO (m:=4) (k:=4) (t.ZA P w base) (jm.mono (by decide)) t.Z3 t.aH t.Z5;have lQ:=ZO (m:=5) (k:=5) (t.ZA P w base) (jq.mono (by decide)) t.Z3 t.aH t.Z5;have qC:=YcM (k:=6) (t.DP P w base) (lQ.mono (by decide)) t.aA;have lD:=QQ (k:=16) (t.DQ P w base) (Mp.mono (by decide)) (qC.mono (by decide)) (Ml.mono (by decide)) (Ms.mono (by decide)) (nY.mono (by decide)) t.Z3 t.aA t.aH t.Ze;exact Yfa (g:=Gx.mk P w K mg base) (k:=62) (Z3Q.mono (by decide)) (qz.mono (by decide)) (Ml.mono (by decide)) (nU.mono (by decide)) (lO.mono (by decide)) (Ms.mono (by decide)) (lM.mono (by decide)) (lD.mono (by decide)) t.aA t.Ze hnd
end KW
namespace PySem.W.Fast
theorem tw16275213262783954639:True:=⟨⟩
theorem tw16310938456089628980:True:=⟨⟩
theorem tw15286694661338528748:True:=⟨⟩
theorem tw14521318148750312266:True:=⟨⟩
theorem tw11800906094750362721:True:=⟨⟩
theorem tw10416838112170904653:True:=⟨⟩
theorem tw2782671558573407875:True:=⟨⟩
theorem tw5276266796948855674:True:=⟨⟩
theorem tw17978268120332901896:True:=⟨⟩
theorem tw7027673611068227782:True:=⟨⟩
theorem tw2763518720967407818:True:=⟨⟩
theorem tw4997422246127428419:True:=⟨⟩
theorem tw11177638987258319733:True:=⟨⟩
theorem tw15939759610805034761:True:=⟨⟩
theorem tw8251791187991273801:True:=⟨⟩
theorem tw7739943412231300345:True:=⟨⟩
theorem tw4316626496837867715:True:=⟨⟩
theorem tw18441679980017480879:True:=⟨⟩
theorem tw17891919380905087090:True:=⟨⟩
theorem tw15224171446096768093:True:=⟨⟩
theorem tw14614960370607921794:True:=⟨⟩
theorem tw2775584079873134030:True:=⟨⟩
theorem tw5112065011335087028:True:=⟨⟩
theorem tw2054245976765081880:True:=⟨⟩
theorem tw16543165672310309504:True:=⟨⟩
theorem tw8305899703401377294:True:=⟨⟩
theorem tw16813471812541435276:True:=⟨⟩
theorem tw16753027444216016617:True:=⟨⟩
theorem tw1623253733074543984:True:=⟨⟩
theorem tw12504473745189154554:True:=⟨⟩
theorem tw14456432220970820519:True:=⟨⟩
theorem tw12948588749312689373:True:=⟨⟩
theorem tw9130734493032312095:True:=⟨⟩
theorem tw9427986911441165804:True:=⟨⟩
theorem tw735287698341475055:True:=⟨⟩
theorem tw448967412359787262:True:=⟨⟩
theorem tw17210032060965240477:True:=⟨⟩
theorem tw9224592446245996840:True:=⟨⟩
theorem tw10930401714303811217:True:=⟨⟩
theorem tw12818070088046564346:True:=⟨⟩
theorem tw12202590325679563210:True:=⟨⟩
theorem tw7951751479093083097:True:=⟨⟩
theorem tw2725273001565249665:True:=⟨⟩
theorem tw148408880002934907:True:=⟨⟩
theorem tw10442225683578890698:True:=⟨⟩
theorem tw2818201491417463184:True:=⟨⟩
theorem tw5416254871637847748:True:=⟨⟩
theorem tw2870893582369697768:True:=⟨⟩
theorem tw9535285665303801767:True:=⟨⟩
theorem tw12809161519467529171:True:=⟨⟩
theorem tw8990744189478203001:True:=⟨⟩
theorem tw17675927671991591944:True:=⟨⟩
theorem tw18380691251875571201:True:=⟨⟩
theorem tw7420893397347404469:True:=⟨⟩
theorem tw18276281530848487012:True:=⟨⟩
theorem tw13094715167566334256:True:=⟨⟩
theorem tw7646605574023696480:True:=⟨⟩
theorem tw16291685437393864454:True:=⟨⟩
theorem tw4690462386527980632:True:=⟨⟩
theorem tw11124417487093057429:True:=⟨⟩
theorem tw6406019963970607177:True:=⟨⟩
theorem tw15280952449806456623:True:=⟨⟩
theorem tw1282368882334460809:True:=⟨⟩
theorem tw6979975101124872673:True:=⟨⟩
theorem tw17188262347919930903:True:=⟨⟩
theorem tw10325635137627861888:True:=⟨⟩
theorem tw5004272043174678089:True:=⟨⟩
theorem tw10291837255200030145:True:=⟨⟩
theorem tw16727132489913671513:True:=⟨⟩
theorem tw6494060850763431890:True:=⟨⟩
theorem tw15835442259760136989:True:=⟨⟩
theorem tw12524583108342113962:True:=⟨⟩
theorem tw9578330673455830165:True:=⟨⟩
theorem tw1679919405309790611:True:=⟨⟩
theorem tw9805113131081408711:True:=⟨⟩
theorem tw450144230123506570:True:=⟨⟩
theorem tw6569481441401209545:True:=⟨⟩
theorem tw15468973238795439357:True:=⟨⟩
theorem tw5987567634505253258:True:=⟨⟩
theorem tw6975984749189727775:True:=⟨⟩
theorem tw6887147275417337453:True:=⟨⟩
theorem tw3876298992537657017:True:=⟨⟩
theorem tw3666844212094843679:True:=⟨⟩
theorem tw16682716058845340231:True:=⟨⟩
theorem tw5187013462874028703:True:=⟨⟩
theorem tw12993236705460768076:True:=⟨⟩
theorem tw853073641749242945:True:=⟨⟩
theorem tw17696707320340308375:True:=⟨⟩
theorem tw1239645726357499564:True:=⟨⟩
theorem tw13422550961312864344:True:=⟨⟩
theorem tw197634304447192738:True:=⟨⟩
theorem tw1629308064853302022:True:=⟨⟩
theorem tw8425927377884725292:True:=⟨⟩
theorem tw14417884216739954891:True:=⟨⟩
theorem tw10572879478068797887:True:=⟨⟩
theorem tw5560952751092217937:True:=⟨⟩
theorem tw9219281607714595047:True:=⟨⟩
theorem tw17446498997108678848:True:=⟨⟩
theorem tw11348538918477305730:True:=⟨⟩
theorem tw5583087219619322093:True:=⟨⟩
theorem tw15737276273174191662:True:=⟨⟩
theorem tw12730475940792089093:True:=⟨⟩
theorem tw10963953817839807513:True:=⟨⟩
theorem tw11055754934243881304:True:=⟨⟩
theorem tw8641652346807686443:True:=⟨⟩
theorem tw2801527578152113376:True:=⟨⟩
theorem tw14111971900172345469:True:=⟨⟩
theorem tw870216945339857590:True:=⟨⟩
theorem tw2080618788172869636:True:=⟨⟩
theorem tw3290794994073871413:True:=⟨⟩
theorem tw12569510506641152149:True:=⟨⟩
theorem tw1656748407578089766:True:=⟨⟩
theorem tw1567122843928426715:True:=⟨⟩
theorem tw3688834584441465728:True:=⟨⟩
theorem tw1892766866546421062:True:=⟨⟩
theorem tw570769238637771414:True:=⟨⟩
theorem tw11264234149746847583:True:=⟨⟩
theorem tw4322208357340060481:True:=⟨⟩
theorem tw12590865891511462439:True:=⟨⟩
theorem tw10423487177315278506:True:=⟨⟩
theorem tw17109971284232267790:True:=⟨⟩
theorem tw9205902069608311088:True:=⟨⟩
theorem tw7545963544214872470:True:=⟨⟩
theorem tw5286169914673673424:True:=⟨⟩
theorem tw17048133472144296501:True:=⟨⟩
theorem tw8821844106227340920:True:=⟨⟩
theorem tw9776623864288325554:True:=⟨⟩
theorem tw5517637218989330491:True:=⟨⟩
theorem tw8890239666534209305:True:=⟨⟩
theorem tw15136854788898686336:True:=⟨⟩
theorem tw2742128061126571070:True:=⟨⟩
theorem tw5773522302759559418:True:=⟨⟩
theorem tw10495686754354760320:True:=⟨⟩
theorem tw5984318678199464607:True:=⟨⟩
theorem tw6446045944266837852:True:=⟨⟩
theorem tw1814515529896823140:True:=⟨⟩
theorem tw15154449230382345386:True:=⟨⟩
theorem tw5118542068771543995:True:=⟨⟩
theorem tw13209376776913463593:True:=⟨⟩
theorem tw16036179932704793770:True:=⟨⟩
theorem tw3442952872665528531:True:=⟨⟩
theorem tw8323073703682828119:True:=⟨⟩
theorem tw17770483628250953824:True:=⟨⟩
theorem tw15158271510285004067:True:=⟨⟩
theorem tw3508329283025485001:True:=⟨⟩
theorem tw2176339758216524046:True:=⟨⟩
theorem tw12945357846440589652:True:=⟨⟩
theorem tw13247878329994163116:True:=⟨⟩
theorem tw11226918688400917616:True:=⟨⟩
theorem tw15193496784021794892:True:=⟨⟩
theorem tw17699929178444306251:True:=⟨⟩
theorem tw2638670902872490017:True:=⟨⟩
theorem tw5778501315519014660:True:=⟨⟩
theorem tw18264866411977317064:True:=⟨⟩
theorem tw8048819641332803789:True:=⟨⟩
theorem tw14382315297892286918:True:=⟨⟩
theorem tw14564505310370627818:True:=⟨⟩
theorem tw12451859589341484292:True:=⟨⟩
theorem tw14044040459352526022:True:=⟨⟩
theorem tw3436687869323743568:True:=⟨⟩
theorem tw4535070487381298213:True:=⟨⟩
theorem tw10483989413974213453:True:=⟨⟩
theorem tw10063286201838582950:True:=⟨⟩
theorem tw2856500452773531929:True:=⟨⟩
theorem tw1545011085072383634:True:=⟨⟩
theorem tw13135271555020034265:True:=⟨⟩
theorem tw9941626347427505562:True:=⟨⟩
theorem tw15693582717488548549:True:=⟨⟩
theorem tw5191665762369905070:True:=⟨⟩
theorem tw16128895417760809770:True:=⟨⟩
theorem tw15157539530996798276:True:=⟨⟩
theorem tw4099784756867567788:True:=⟨⟩
theorem tw9625315485636631427:True:=⟨⟩
theorem tw14049758658867929899:True:=⟨⟩
theorem tw17172134186456538496:True:=⟨⟩
theorem tw9941496378586387700:True:=⟨⟩
theorem tw13722609644963343981:True:=⟨⟩
theorem tw13139015290053917081:True:=⟨⟩
theorem tw6697646688303395113:True:=⟨⟩
theorem tw5963817168498965448:True:=⟨⟩
theorem tw17767214481900043129:True:=⟨⟩
theorem tw4590805010961066549:True:=⟨⟩
theorem tw3561153198934290065:True:=⟨⟩
theorem tw8371890472722265520:True:=⟨⟩
theorem tw4034194911443267447:True:=⟨⟩
theorem tw1102861152514353736:True:=⟨⟩
theorem tw4724221293241271037:True:=⟨⟩
theorem tw9978480643022742791:True:=⟨⟩
theorem tw15957669914219163946:True:=⟨⟩
theorem tw6360450918197576997:True:=⟨⟩
theorem tw15568781488308127477:True:=⟨⟩
theorem tw9583909472176746880:True:=⟨⟩
theorem tw3108207326009335582:True:=⟨⟩
theorem tw306622795933435496:True:=⟨⟩
end PySem.W.Fast
open PySem PySem.W PyProof.Rows
set_option maxRecDepth 100000 in
set_option maxHeartbeats 0 in
theorem PySem.Challenge.cw_countgen_k84_whole_deeds_shrunk_holds : PySem.Challenge.rw_countgen_k84_whole_deeds_shrunk.Holds := by
 w_on;o_law;k_head;(case hw=>w_witness2)
 k_fill
 refine' L2.YeA (l:=PySem.Challenge.rw_countgen_k84_whole_deeds_shrunk) (tabs:=[("deed_judge",227,223),("shrunk_deeds",934,930),("_law_thing",998,994)]) 62 "_law_script" KW.Q2 ["_law_script","_law_cell","_law_low","_law_way","_law_how","_law_bad","_law_many","_law_shape_here","_law_deeds","_law_one","_law_other","_law_handed","_law_book","_law_found"] rfl rfl ⟨rfl,by decide,by decide,rfl⟩ KW.Xp (fun w h Y=>by first | exact PySem.W.kIn_of Y | exact PySem.W.km_in_of Y) ?tR ?tT ?tN ?F
 case tR=>intro p hp;simp only [Υ,a7,or_false] at hp;rcases hp with rfl | rfl | rfl<;>exact ⟨_,rfl⟩
 case tT=>intro w p hp;simp only [Υ,a7,or_false] at hp;rcases hp with rfl | rfl | rfl<;>kernel_rfl
 case tN=>intro w p hp;simp only [Υ,a7,or_false] at hp;rcases hp with rfl | rfl | rfl<;>kernel_rfl
 case F =>
  intro w mg h KX G;refine' ⟨L2.S7 KX G ?a ?l ?c ?k (fun _ _ _ _ _ _ _ _ => .of_eq rfl),fun base hB hC=>KW.Yfb ⟨?Ck,?Cm,?Cp,?Cq,?Cr,?Cu,?Cv,?Cw,?kE,?Cy,?kJ,?Cz,?CG,?CJ,?CK,?CN,?CP,?CQ,?CT,?CV,?CW,?CZ,?Dc,?Dd,?Df,?Dg,?Dh,?ZI,?Di,?Dj,?Dk,?Dl,?Zk,?ZT,?ZE,?Dm,?Dn,?kO,?Dp,?Dq,?iB,?Dr,?kW,?iC,?Ds,?Dt,?Du,?Dv,?Dw,?Dy,?Dz,?DG,?DN,?ZA,?DP,?DQ,?Zm,?Zq,?Zg,?Z7,?Z6,?Z9,?Za,?Zf,?Zh,?Zd,?Zc,?Zb,?Z8,?iQ,?gK,?cT,?cB,?Zi,?cF,?Z3,?aA,?aH,?Ze,?cG,?cZ,?Z5,?gM⟩ _ w base hB (hC _ (.head _)) (hC _ (.tail _ (.head _))) (hC _ (.tail _ (.tail _ (.head _)))) (by decide)⟩;(case a=>k_is);(case l=>k_is);(case c=>k_is);(case k=>k_is)
  case CK | CN=>refine' L2.G8 KX G ["self","parts"] ?_ ?_ ?_ ?_ ?_ ?_ ?_ ?_ (fun _ _ _ _ _ _ us hl=>by obtain ⟨_,_,rfl⟩:=KW.bN hl;rfl)<;>try k_is
  case CP | Dh=>refine' L2.G8 KX G ["self","book"] ?_ ?_ ?_ ?_ ?_ ?_ ?_ ?_ (fun _ _ _ _ _ _ us hl=>by obtain ⟨_,_,rfl⟩:=KW.bN hl;rfl)<;>try k_is
  case Ck=>refine' L2.YM KX G ["thing"] ?_ ?_ ?_ ?_ (fun _ _ _ _ _ _ us hl=>by obtain ⟨_,rfl⟩:=KW.cg hl;rfl)<;>try k_is
  case Cm=>refine' L2.YM KX G ["branches","mark"] ?_ ?_ ?_ ?_ (fun _ _ _ _ _ _ us hl=>by obtain ⟨_,_,rfl⟩:=KW.bN hl;rfl)<;>try k_is
  case Cp=>refine' L2.YM KX G ["branches","value"] ?_ ?_ ?_ ?_ (fun _ _ _ _ _ _ us hl=>by obtain ⟨_,_,rfl⟩:=KW.bN hl;rfl)<;>try k_is
  case Cq=>refine' L2.YM KX G ["shape","value"] ?_ ?_ ?_ ?_ (fun _ _ _ _ _ _ us hl=>by obtain ⟨_,_,rfl⟩:=KW.bN hl;rfl)<;>try k_is
  case Cr=>refine' L2.YM KX G ["book","shape","value"] ?_ ?_ ?_ ?_ (fun _ _ _ _ _ _ us hl=>by obtain ⟨_,_,_,rfl⟩:=KW.dX hl;rfl)<;>try k_is
  case Cu=>refine' L2.YM KX G ["keys"] ?_ ?_ ?_ ?_ (fun _ _ _ _ _ _ us hl=>by obtain ⟨_,rfl⟩:=KW.cg hl;rfl)<;>try k_is
  case Cv=>refine' L2.YM KX G ["shape","keys"] ?_ ?_ ?_ ?_ (fun _ _ _ _ _ _ us hl=>by obtain ⟨_,_,rfl⟩:=KW.bN hl;rfl)<;>try k_is
  case Cw=>refine' L2.YM KX G ["shape","value","keys"] ?_ ?_ ?_ ?_ (fun _ _ _ _ _ _ us hl=>by obtain ⟨_,_,_,rfl⟩:=KW.dX hl;rfl)<;>try k_is
  case kE | Cy | kJ | Cz | CG=>refine' L2.YM KX G ["book","shape","value"] ?_ ?_ ?_ ?_ (fun _ _ _ _ _ _ us hl=>by obtain ⟨_,_,_,rfl⟩:=KW.dX hl;rfl)<;>try k_is
  case CJ=>refine' L2.Ygc KX G ["self"] ?_ ?_ ?_ ?_ ?_ ?_ ?_ (fun _ _ _ _ _ _ us hl=>by obtain ⟨_,rfl⟩:=KW.cg hl;rfl)<;>try k_is
  case CQ=>refine' L2.XZ KX G ["self","size"] ?_ ?_ ?_ ?_ ?_ (fun _ _ _ _ _ _ us hl=>by obtain ⟨_,_,rfl⟩:=KW.bN hl;rfl)<;>try k_is
  case CT=>refine' L2.XZ KX G ["self","place","left"] ?_ ?_ ?_ ?_ ?_ (fun _ _ _ _ _ _ us hl=>by obtain ⟨_,_,_,rfl⟩:=KW.dX hl;rfl)<;>try k_is
  case CV | CW=>refine' L2.XZ KX G ["self","size"] ?_ ?_ ?_ ?_ ?_ (fun _ _ _ _ _ _ us hl=>by obtain ⟨_,_,rfl⟩:=KW.bN hl;rfl)<;>try k_is
  case CZ=>refine' L2.XZ KX G ["self","size","number"] ?_ ?_ ?_ ?_ ?_ (fun _ _ _ _ _ _ us hl=>by obtain ⟨_,_,_,rfl⟩:=KW.dX hl;rfl)<;>try k_is
  case Dc=>refine' L2.YM KX G ["maker","below"] ?_ ?_ ?_ ?_ (fun _ _ _ _ _ _ us hl=>by obtain ⟨_,_,rfl⟩:=KW.bN hl;rfl)<;>try k_is
  case Dd=>refine' L2.YM KX G ["shape"] ?_ ?_ ?_ ?_ (fun _ _ _ _ _ _ us hl=>by obtain ⟨_,rfl⟩:=KW.cg hl;rfl)<;>try k_is
  case Df | Dg=>refine' L2.XZ KX G ["self","shape"] ?_ ?_ ?_ ?_ ?_ (fun _ _ _ _ _ _ us hl=>by obtain ⟨_,_,rfl⟩:=KW.bN hl;rfl)<;>try k_is
  case ZI=>refine' L2.XZ KX G ["self","shape","value"] ?_ ?_ ?_ ?_ ?_ (fun _ _ _ _ _ _ us hl=>by obtain ⟨_,_,_,rfl⟩:=KW.dX hl;rfl)<;>try k_is
  case Di=>refine' L2.YM KX G ["low","value"] ?_ ?_ ?_ ?_ (fun _ _ _ _ _ _ us hl=>by obtain ⟨_,_,rfl⟩:=KW.bN hl;rfl)<;>try k_is
  case Dj=>refine' L2.YM KX G ["things"] ?_ ?_ ?_ ?_ (fun _ _ _ _ _ _ us hl=>by obtain ⟨_,rfl⟩:=KW.cg hl;rfl)<;>try k_is
  case Dk=>refine' L2.YM KX G ["things","inner"] ?_ ?_ ?_ ?_ (fun _ _ _ _ _ _ us hl=>by obtain ⟨_,_,rfl⟩:=KW.bN hl;rfl)<;>try k_is
  case Dl=>refine' L2.XZ KX G ["self","shape","value","inner"] ?_ ?_ ?_ ?_ ?_ (fun _ _ _ _ _ _ us hl=>by obtain ⟨_,_,_,_,rfl⟩:=KW.Cj hl;rfl)<;>try k_is
  case Zk=>refine' L2.XZ KX G ["self","shape","value"] ?_ ?_ ?_ ?_ ?_ (fun _ _ _ _ _ _ us hl=>by obtain ⟨_,_,_,rfl⟩:=KW.dX hl;rfl)<;>try k_is
  case ZT=>refine' L2.YM KX G ["thing"] ?_ ?_ ?_ ?_ (fun _ _ _ _ _ _ us hl=>by obtain ⟨_,rfl⟩:=KW.cg hl;rfl)<;>try k_is
  case ZE=>refine' L2.YM KX G ["_law_value"] ?_ ?_ ?_ ?_ (fun _ _ _ _ _ _ us hl=>by obtain ⟨_,rfl⟩:=KW.cg hl;rfl)<;>try k_is
  case Dm=>refine' L2.YM KX G ["book","shape","value"] ?_ ?_ ?_ ?_ (fun _ _ _ _ _ _ us hl=>by obtain ⟨_,_,_,rfl⟩:=KW.dX hl;rfl)<;>try k_is
  case Dn=>refine' L2.YM KX G ["thing"] ?_ ?_ ?_ ?_ (fun _ _ _ _ _ _ us hl=>by obtain ⟨_,rfl⟩:=KW.cg hl;rfl)<;>try k_is
  case kO=>refine' L2.YM KX G ["one","other"] ?_ ?_ ?_ ?_ (fun _ _ _ _ _ _ us hl=>by obtain ⟨_,_,rfl⟩:=KW.bN hl;rfl)<;>try k_is
  case Dp=>refine' L2.YM KX G ["_law_deed_here","_law_low"] ?_ ?_ ?_ ?_ (fun _ _ _ _ _ _ us hl=>by obtain ⟨_,_,rfl⟩:=KW.bN hl;rfl)<;>try k_is
  case Dq=>refine' L2.YM KX G ["_law_how","_law_bad","_law_weights"] ?_ ?_ ?_ ?_ (fun _ _ _ _ _ _ us hl=>by obtain ⟨_,_,_,rfl⟩:=KW.dX hl;rfl)<;>try k_is
  case iB=>refine' L2.YM KX G ["begin","done","model_begin","model_done","deeds"] ?_ ?_ ?_ ?_ (fun _ _ _ _ _ _ us hl=>by obtain ⟨_,_,_,_,_,rfl⟩:=KW.Mg hl;rfl)<;>try k_is
  case Dr =>
   refine' L2.Qf KX G ["_law_how","_law_bad","_law_low"] ?a ?l ?c ?k ?e (fun _ _ _ _ _ _ us hl=>by obtain ⟨_,_,_,rfl⟩:=KW.dX hl;rfl);(case a=>k_is);(case l=>k_is);(case c=>k_is);(case k=>k_is);(case e=>rfl)
  case kW=>refine' L2.YM KX G ["deeds"] ?_ ?_ ?_ ?_ (fun _ _ _ _ _ _ us hl=>by obtain ⟨_,rfl⟩:=KW.cg hl;rfl)<;>try k_is
  case iC=>refine' L2.YM KX G ["judge","value"] ?_ ?_ ?_ ?_ (fun _ _ _ _ _ _ us hl=>by obtain ⟨_,_,rfl⟩:=KW.bN hl;rfl)<;>try k_is
  case Ds=>refine' L2.YM KX G ["judge","values"] ?_ ?_ ?_ ?_ (fun _ _ _ _ _ _ us hl=>by obtain ⟨_,_,rfl⟩:=KW.bN hl;rfl)<;>try k_is
  case Dt=>refine' L2.YM KX G ["judge","value","values_next"] ?_ ?_ ?_ ?_ (fun _ _ _ _ _ _ us hl=>by obtain ⟨_,_,_,rfl⟩:=KW.dX hl;rfl)<;>try k_is
  case Du =>
   refine' L2.Qf KX G ["begin","done","model_begin","model_done"] ?a ?l ?c ?k ?e (fun _ _ _ _ _ _ us hl=>by obtain ⟨_,_,_,_,rfl⟩:=KW.Cj hl;rfl);(case a=>k_is);(case l=>k_is);(case c=>k_is);(case k=>k_is);(case e=>rfl)
  case Dv =>
   refine' L2.Qf KX G ["book","shape","begin","done","model_begin","model_done","deeds"] ?a ?l ?c ?k ?e (fun _ _ _ _ _ _ us hl=>by obtain ⟨_,_,_,_,_,_,_,rfl⟩:=KW.us7 hl;rfl);(case a=>k_is);(case l=>k_is);(case c=>k_is);(case k=>k_is);(case e=>rfl)
  case Dw=>refine' L2.YM KX G ["_law_script","_law_k","_law_step"] ?_ ?_ ?_ ?_ (fun _ _ _ _ _ _ us hl=>by obtain ⟨_,_,_,rfl⟩:=KW.dX hl;rfl)<;>try k_is
  case Dy=>refine' L2.YM KX G ["_law_cell","_law_way","_law_low"] ?_ ?_ ?_ ?_ (fun _ _ _ _ _ _ us hl=>by obtain ⟨_,_,_,rfl⟩:=KW.dX hl;rfl)<;>try k_is
  case Dz=>refine' L2.YM KX G ["_law_way","_law_low"] ?_ ?_ ?_ ?_ (fun _ _ _ _ _ _ us hl=>by obtain ⟨_,_,rfl⟩:=KW.bN hl;rfl)<;>try k_is
  case DG=>refine' L2.YM KX G ["_law_how","_law_bad","_law_low","_law_deeds"] ?_ ?_ ?_ ?_ (fun _ _ _ _ _ _ us hl=>by obtain ⟨_,_,_,_,rfl⟩:=KW.Cj hl;rfl)<;>try k_is
  case DN=>refine' L2.YM KX G ["_law_deeds"] ?_ ?_ ?_ ?_ (fun _ _ _ _ _ _ us hl=>by obtain ⟨_,rfl⟩:=KW.cg hl;rfl)<;>try k_is
  case ZA | DP=>refine' L2.YM KX G ["_law_value"] ?_ ?_ ?_ ?_ (fun _ _ _ _ _ _ us hl=>by obtain ⟨_,rfl⟩:=KW.cg hl;rfl)<;>try k_is
  case DQ=>refine' L2.YM KX G ["_law_found","_law_book","_law_shape_here","_law_plan","_law_deeds"] ?_ ?_ ?_ ?_ (fun _ _ _ _ _ _ us hl=>by obtain ⟨_,_,_,_,_,rfl⟩:=KW.Mg hl;rfl)<;>try k_is
  case Zm=>refine' ⟨?_,?_,?_,?_⟩<;>try k_is
  case Zq | Zg=>refine' L2.WR ?_<;>try k_is
  case Z7=>refine' ⟨?_,?_,?_,?_⟩<;>try k_is
  case Z6 | Z9 | Za=>refine' L2.WR ?_<;>try k_is
  case Zf=>refine' ⟨?_,?_,?_,?_⟩<;>try k_is
  case Zh | Zd=>refine' L2.WR ?_<;>try k_is
  case Zc=>refine' ⟨?_,?_,?_,?_⟩<;>try k_is
  case Zb | Z8=>refine' L2.WR ?_<;>try k_is
  case iQ =>
   refine' L2.Tz KX G ?a ?l ?z ?r;(case a=>k_is);(case l=>k_is);(case z=>decide);(case r=>exact (.cons ⟨_,rfl⟩ (.cons ⟨_,rfl⟩ (.cons ⟨_,rfl⟩ .nil))))
  case gK | cT | cB | Zi | cF | Z3 | aA | aH | Ze | cG | cZ | Z5 | gM=>refine' PySem.W.mg_none_of KX G ?_<;>try k_is
