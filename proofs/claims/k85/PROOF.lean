import PyProof.Rows.All
import Wide.FinOn
import OpenK.KMake
import OpenK.KLine
import KE.IntBitsLaws
import KE.KEqDict
import KE.KLam
import KE.KNestM
import KE.KTryMore
import KE.KTryOn
import KE.RegKIsAll
import KE.RegKTryMore
import PyProof.ExcBaseAll.ValueError
import PyProof.ExcArgsOwn
import PyProof.TupleCall
import PyProof.CollectIter
import PyProof.CallFns
import PySem.Challenge.RW_countgen_k85_deeds_refused
set_option compiler.extract_closed false
open PySem renaming Value→Α,Shared→Β,wpAny_bind→Δ,wpAny→Μ,model→Ξ,wpAny_pure→Ο,Program→Ρ,starEach→Τ,World→Ω,Around→η,PyData→ξ,wpAny_mono→aa,mainGlobals→aw,FuncData→ba,backTo→be,compareOp→bj,wpAny_loadPart_at→bq,wpAny_Call_Name_kw→bz,mem_of_lookup→b9,sliceBounds→cE,wpAny_newObj_type→cK,wpAny_field→c8,Scope→da,rawInt→db,wpAny_truthy_bool→dA,wpAny_callSpecial?_slot→dE,bootBuiltins→d6,codeAny→ei,wpAny_passesOwn→ek,codeAny_call_builtin→eA,wpAny_call_entry→eL,wpAny_standAt→eR,sysModules→eW,wpAny_specialOf→fg,wpAny_execs_nil→fh,excClassObj→fo,cLine→fw,codeAny_mono→fF,wpAny_seqItems→f8,bindArgs→gi,binaryOp→gs,wpAny_execs_cons→gy,wpAny_newFunctionEnv→gN,NameKind→ik,Within→io,wpAny_call→iE,builtinsNs→iF,assignEach→iL,wpAny_pyIter_enum→iN,keywordEach→i3,IsRangeIter→i4,wpAny_holding→i5,attributeBase→i6,compEnvC→i7,getMethod→i9,Arguments→jb,closureFor→jp,letOwnedTupleGo→jv,getItem→j2,wpAny_loadPart→ke,firstArgMember→kg,sizeLine_eq→kn,swapsWith→kr,evalPart_some→ku,evalPart_none→kC,behindInMarks→kD,wpAny_rule→kG,typeLookup→kH,callWith→kP,backToKw→kQ
open Option.some renaming inj→Ε
open PySem.Heap renaming get?_push_of_some→Ζ,lt_size→Φ,get?_push_size→δ,SameBut→cy,get?_update_self→c5,get?_update_other→dm,size_push→dQ,MadeExcOf→km,FlyingW→kU
open List renaming getElem?_eq_some_iff→Η,length_map→Θ,length_append→Κ,getElem?_eq_getElem→Λ,getElem?_map→Υ,mem_of_getElem?→Χ,mem_cons→Ψ,mem_singleton→ε,lookup_cons→ι,length_take→ν,size_toArray→ς,mem_append→τ,getElem?_append_left→υ,length_singleton→ω,getElem?_append_right→ac,mem_map→ae,length_cons→ai,map_append→am,not_mem_nil→ax,mem_append_right→ay,length_drop→aI,map_cons→aS,range→a9,mem_cons_of_mem→bb,getElem?_of_mem→bc,nodup_cons→bg,append_nil→bi,lookup→bn,Nodup→bu,filterMap_cons→cS,length_eq_zero_iff→de,mem_map_of_mem→di,of_mem_zip→dy,take_length→dS,take_of_length_le→d0,mem_cons_self→ee,length_replicate→et,getD_eq_getElem?_getD→eu,mem_of_mem_take→eB,getElem?_range→eP,length_nil→fk,drop_of_length_le→ft,mem_range→gh,all_eq_true→gE,mem_of_mem_drop→gS,getElem_of_mem→ia,range_succ→ie,map_nil→ip,mem_filterMap→iq,filter_append→ir,nodup_append→iO,drop_sublist→iP
open PySem.W renaming Frag→Ι,kitOne→γ,findIn→bS,fnOf→cr,callWith_K→dn,hideAll_get→dL,keepIn→dP,kia_one→d5,emptyDict→fq,looks_findIn→fE,tabObj→ge,codeIn→gf,CodeHd→gt,mg_of→gV,hideAll→ic,instObj→im,mroIn→iA,nsIn→js,kla_fn→j3,exmOne→ka,hasDictIn→kq,any_some→kS,specialIn→la
open Nat renaming le_refl→Ν,ne_of_lt→ρ,lt_of_lt_of_le→χ,le_trans→ap,zero_le→ar,lt_irrefl→dC,sub_self→eJ,ne_of_gt→eK,le_of_lt→fT,add_assoc→kF,log2_lt→lb,le_succ→lc
open PySem.Value renaming ref→ζ,none→ck,builtin→c9,type→fc,str→k7,int→k9,bool→lj
open Bool renaming false_ne_true→θ,and_eq_true→c6,false_eq_true→eh,eq_false_iff→iS,eq_iff_iff→j0
open Option renaming map_eq_some_iff→ο,isSome→eS,map_some→jI
open Ne renaming symm→ψ
open PySem.Builtin.Range renaming rangeSize→af,small→ib
open PySem.NameKind renaming free→ag,cell→eT
open PySem.Str renaming ofString→ah
open PySem.PassesOwn renaming never→av
open False renaming elim→az
open PySem.PyData renaming depthAll→aE,eqv→a8,strOk→ce,depth→cw,eqvAll→cz,canLayAll0→ez,canLay0→eI
open PyProof.Rows renaming callWith_type1→a7,AllBare→hV,slot_tupleiter_next→hW,IsTupIter→ja,envOfC→jn,Subscript_→kK
open PySem.F renaming plainAttrs_list→bt,slot_list_append→bE,type_list_append→ci
open PySem.Builtin.SmallTypes renaming nextOf→bX
open PySem.Builtin.Tuple renaming tupleHashOf→c4,tupleExact→eM
open Int renaming toNat→df,toNat_natCast→fA,natCast_add→ij,natAbs_natCast→ix,emod_nonneg→jS
open True renaming intro→dv
open PySem.Builtin.Slice renaming slicePlaces→eC
open PySem.Builtin.Int renaming intBits→eQ
open ForInStep renaming yield→fm
open Nat.succ renaming inj→fN
open PySem.Obj renaming mapSeq→gv
open List.cons renaming inj→hF
open PySem.Sem renaming wp→iX,bind→i8
open Sum renaming inr→kL,inl→kN
open PySem.Code renaming isFrame→kX
open PySem.Around renaming under→k6
open PySem.Data renaming fields→lh
open PySem.SeqAt renaming EqAt→lm
set_option Elab.async false
set_option linter.all false
set_option maxRecDepth 100000
namespace L2
open PySem PySem.Spec PyProof.Rows
abbrev Key:=Sum Int Str
def VZ:Key->Α->Bool
 | .inl k,v=>Value.isInt k v
 | .inr x,v=>Value.isStrOf x v
def Rq (w:Ω):Key->Int
 | .inl k=>hashInt k
 | .inr x=>hashStr w x
theorem Xj:∀ {k:Key} {v:Α},VZ k v=true->(∃ i t,k=kN i/\v=k9 i t)\/(∃ x t,k=kL x/\v=k7 x t)
 | .inl i,v,h=>by
  obtain ⟨t,e⟩:=Value.isInt_shape (k:=i) (v:=v) h;exact .inl ⟨i,t,rfl,e⟩
 | .inr x,v,h=>by
  obtain ⟨t,e⟩:=Value.isStrOf_shape (x:=x) (v:=v) h;exact .inr ⟨x,t,rfl,e⟩
theorem Te (i:Int) (t:Tok):VZ (.inl i) (.int i t)=true:=by simp [VZ,Value.isInt]
theorem Tf (x:Str) (t:Tok):VZ (.inr x) (.str x t)=true:=by simp [VZ,Value.isStrOf]
theorem Tg (a b:Int):decide ((kN a:Key)=kN b)=(a==b):=by
 by_cases e:a=b
 ·subst e;simp
 ·have h:¬ (kN a:Key)=kN b:=fun q=>e (Sum.inl.inj q)
  rw [decide_eq_false h];exact (beq_eq_false_iff_ne.mpr e).symm
theorem Ti (a b:Str):decide ((kL a:Key)=kL b)=decide (a=b):=by
 by_cases e:a=b
 ·subst e;simp
 ·have h:¬ (kL a:Key)=kL b:=fun q=>e (Sum.inr.inj q)
  rw [decide_eq_false h,decide_eq_false e]
theorem Tj (a:Int) (b:Str):decide ((kN a:Key)=kL b)=false:=decide_eq_false (fun q=>nomatch q)
theorem Tn (a:Str) (b:Int):decide ((kL a:Key)=kN b)=false:=decide_eq_false (fun q=>nomatch q)
def XD (prog:Ρ) (w:Ω):PySem.KeyKind prog w Key where
 is:=VZ
 hash:=Rq w
 inj:=fun v a b ha hb=>by
  rcases Xj ha with ⟨i,t,rfl,rfl⟩ | ⟨x,t,rfl,rfl⟩
  ·rcases Xj hb with ⟨j,u,rfl,e⟩ | ⟨y,u,rfl,e⟩
   ·injection e with e1 _;rw [e1]
   ·exact nomatch e
  ·rcases Xj hb with ⟨j,u,rfl,e⟩ | ⟨y,u,rfl,e⟩
   ·exact nomatch e
   ·injection e with e1 _;rw [e1]
 byValue:=fun k v h=>by
  rcases Xj h with ⟨i,t,rfl,rfl⟩ | ⟨x,t,rfl,rfl⟩<;>rfl
 pyHash:=fun hv h=>by
  rcases Xj hv with ⟨i,t,rfl,rfl⟩ | ⟨x,t,rfl,rfl⟩
  ·exact wpAny_pyHash_int h
  ·exact wpAny_pyHash_str h
 eqBool:=fun hu hv h=>by
  rcases Xj hu with ⟨i,t,rfl,rfl⟩ | ⟨x,t,rfl,rfl⟩
  ·rcases Xj hv with ⟨j,u,rfl,rfl⟩ | ⟨y,u,rfl,rfl⟩
   ·rw [Tg] at h;exact wpAny_eqBool_int h
   ·rw [Tj] at h;exact SeqAt.EqAt.int_str i t y u _ _ _ _ h
  ·rcases Xj hv with ⟨j,u,rfl,rfl⟩ | ⟨y,u,rfl,rfl⟩
   ·rw [Tn] at h;exact SeqAt.EqAt.str_int x t j u _ _ _ _ h
   ·rw [Ti] at h;exact wpAny_eqBool_str h
 «strs»:=fun k x t v h=>by
  rcases Xj h with ⟨i,u,rfl,e⟩ | ⟨y,u,rfl,e⟩
  ·exact nomatch e
  ·injection e with e1 _
   subst e1
   cases v<;>rfl
theorem Tq (prog:Ρ) (w:Ω) (i:Int) (t:Tok):(XD prog w).is (.inl i) (.int i t)=true:=Te i t
theorem Tr (prog:Ρ) (w:Ω) (x:Str) (t:Tok):(XD prog w).is (.inr x) (.str x t)=true:=Tf x t
inductive V where
 | non | bl (b:Bool) | int (i:Int) | str (x:Str) | iZ (b:Array UInt8) | flt (b:UInt64) | ref (a:Addr) | ty (n:String)
 deriving DecidableEq
def YH:V->Α->Prop
 | .non,u=>u=ck
 | .bl b,u=>u=lj b
 | .int i,u=>∃ t,u=k9 i t
 | .str x,u=>∃ t,u=k7 x t
 | .iZ b,u=>∃ t,u=Value.bytes b t
 | .flt b,u=>∃ t,u=Value.float b t
 | .ref a,u=>u=ζ a
 | .ty n,u=>u=fc n
abbrev Yz:List V->List Α->Prop:=Paired YH
theorem Yz.length {xs:List V} {us:List Α} (r:Yz xs us):xs.length=us.length:=Paired.length r
theorem Yz.get:∀ {xs:List V} {us:List Α} {i:Nat} {x:V},Yz xs us->xs[i]?=some x->∃ u,us[i]?=some u/\YH x u
 | _,_,_,_,.nil,e=>by simp at e
 | _,_,0,_,.cons r _,e=>by simp at e;subst e;exact ⟨_,rfl,r⟩
 | _,_,i+1,x,.cons _ t,e=>by
  obtain ⟨u,h1,h2⟩:=Yz.get (i:=i) (x:=x) t (by simpa using e);exact ⟨u,by simpa using h1,h2⟩
theorem Yz.append:∀ {xs ys:List V} {us ws:List Α},Yz xs us->Yz ys ws->Yz (xs++ys) (us++ws)
 | _,_,_,_,.nil,s=>s
 | _,_,_,_,.cons r t,s => .cons r (Yz.append t s)
theorem Yz.take:∀ {xs:List V} {us:List Α} (n:Nat),Yz xs us->Yz (xs.take n) (us.take n)
 | _,_,0,_ => .nil
 | _,_,_+1,.nil => .nil
 | _,_,n+1,.cons r t => .cons r (Yz.take n t)
theorem Yz.drop:∀ {xs:List V} {us:List Α} (n:Nat),Yz xs us->Yz (xs.drop n) (us.drop n)
 | _,_,0,r=>r
 | _,_,_+1,.nil => .nil
 | _,_,n+1,.cons _ t=>Yz.drop n t
theorem Yz.none_of:∀ {xs:List V} {us:List Α} {i:Nat},Yz xs us->xs[i]?=none->us[i]?=none:=fun {xs us i} r e=>by
 have h1:=r.length;have h2:xs.length<=i:=List.getElem?_eq_none_iff.mp e;exact List.getElem?_eq_none_iff.mpr (by omega)
def Wc:Option V->Option Α->Prop
 | some v,some u=>YH v u
 | none,none=>True
 | _,_=>False
def KV {κ:Type}:List (κ×V)->List (κ×Α)->Prop:=Paired fun (p:κ×V) (q:κ×Α)=>p.1=q.1/\YH p.2 q.2
def kV:Key->V
 | .inl i => .int i
 | .inr x => .str x
inductive HO where
 /-- a list -/
 | lst (xs:List V)
 /-- a tuple (never changes) -/
 | tup (xs:List V)
 /-- a dict whose keys are ints and texts;one whose keys are tuples of ints and texts (the empty one is both) -/
 | dK (kvs:List (Key×V)) | dT (kvs:List (List Key×V))
 /-- a set of ints: its members,its size -/
 | set (S:Int->Bool) (n:Nat)
 /-- an instance of the class at C,its dict at dx,its attributes -/
 | ins (C dx:Addr) (fs:List (Str×V))
 /-- the dict of the instance at x -/
 | own (x:Addr)
 /-- the dict of an exception -/
 | xd (fs:List (Str×V))
 /-- a bound method,f of x -/
 | met (f x:Addr)
 /-- a range object lo,lo+1,.. below hi -/
 | rng (lo hi:Int)
 /-- a thing that is known to the object (the script;a dict while a loop walks it): read,never written while it is so -/
 | cM (o:Obj) (u:HO)
 /-- a code object's table -/
 | aU (ps:Array Α)
 /-- any other thing,by what is true of its one object (a def of one's own: Rr a S n:=HO.ext fun h => ..) -/
 | ext (φ:Heap->Prop)
abbrev Hp:=Addr->Option HO
def upd (H:Hp) (a:Addr) (o:HO):Hp:=fun b=>if b=a then some o else H b
theorem Yb {H:Hp} {a:Addr} {o:HO}:upd H a o a=some o:=by unfold upd;rw [if_pos rfl]
theorem Ye {H:Hp} {a b:Addr} {o:HO} (h:b≠a):upd H a o b=H b:=by unfold upd;rw [if_neg h]
theorem YE {H:Hp} {a b:Addr} {o u:HO} (h:H a=some o) (h':H b=some u) (d:o≠u):a≠b:=by
 intro e;subst e;rw [h] at h';exact d (Ε h')
theorem Yj {H:Hp} {a b:Addr} {o:HO} (h:H a=some o) (h':H b=none):a≠b:=by
 intro e;subst e;rw [h] at h';cases h'
section
variable (P:Ρ) (w:Ω)
def YO (H:Hp) (h:Heap) (a:Addr):HO->Prop
 | .lst xs=>xs.length<=sizeLine/\∃ (its:List Α) (n:Nat),Yz xs its/\h.get? a=some { cls := .type "list",data := .seq its.toArray n }
 | .tup xs=>xs.length<=sizeLine/\∃ its:List Α,Yz xs its/\IsTup h a its.toArray
 | .dK kvs=>kvs.length<=sizeLine/\(a==eW)=false/\∃ vs,KV kvs vs/\h.DictOf (XD P w) a vs
 | .dT kvs=>kvs.length<=sizeLine/\(a==eW)=false/\∃ xs:List (List Key×Addr×Α),
   Paired (fun (p:List Key×V) (q:List Key×Addr×Α)=>p.1=q.1/\H q.2.1=some (.tup (p.1.map kV))/\YH p.2 q.2.2) kvs xs /\
   ∃ o es ep,h.get? a=some o/\o.ExactDict/\o.data = .dict es ep/\es.toList=xs.map (entryOfKey (tupleKind (XD P w)))/\(xs.map (·.1)).Nodup
 | .set S n=>h.SetOf (intKind P w) a S n
 | .ins C dx fs=>H dx=some (.own a)/\fs.length<=1000/\dx≠a/\h.get? a=some (im C dx) /\
   ∃ mA,h.Ns1 dx mA/\(∀ f,Wc (fs.lookup f) (mA f))/\io mA (fs.map (·.1))
 | .own _=>∃ o,h.get? a=some o
 | .xd fs=>∃ mA,h.Ns1 a mA/\∀ f,Wc (fs.lookup f) (mA f)
 | .rng lo hi=>∃ t u v,h.get? a=some { cls := .type "range",data := .fields #[.int lo t,.int hi u,.int 1 v] }
 | .cM o u=>h.get? a=some o/\YO H h a u
 | .aU ps=>h.get? a=some { cls := .none,data := .fields ps }
 | .met f x=>h.get? a=some (W.methodObj (.ref f) (.ref x))
 | .ext φ=>φ h/\(∃ o,h.get? a=some o)/\∀ h1 h2:Heap,φ h1->(∀ o,h1.get? a=some o->h2.get? a=some o)->φ h2
def bD (H:Hp) (h:Heap):Prop:=∀ a o,H a=some o->YO P w H h a o
end
section
variable {P:Ρ} {w:Ω} {H H':Hp} {h h':Heap} {a:Addr} {o:HO}
theorem YO.lt (x:YO P w H h a o):a<h.objs.size:=by
 cases o with
 | lst xs=>obtain ⟨_,_,_,_,e⟩:=x;exact Φ e
 | tup xs=>obtain ⟨_,_,_,p⟩:=x;exact p.lt
 | dK kvs=>obtain ⟨_,_,_,_,o,_,_,e,_⟩:=x;exact Φ e
 | dT kvs=>obtain ⟨_,_,_,_,o,_,_,e,_⟩:=x;exact Φ e
 | set S n=>obtain ⟨o,_,_,_,e,_⟩:=x;exact Φ e
 | ins C dx fs=>obtain ⟨_,_,_,e,_⟩:=x;exact Φ e
 | own y=>obtain ⟨_,e⟩:=x;exact Φ e
 | xd fs=>obtain ⟨_,⟨_,_,_,e,_⟩,_⟩:=x;exact Φ e
 | rng lo hi=>obtain ⟨_,_,_,e⟩:=x;exact Φ e
 | cM ob u=>obtain ⟨e,_⟩:=x;exact Φ e
 | aU ps=>exact Φ (show h.get? a=some _ from x)
 | met f y=>exact Φ (show h.get? a=some _ from x)
 | ext φ=>obtain ⟨_,⟨_,e⟩,_⟩:=x;exact Φ e
theorem Paired.yG {α β:Type} {F G:α->β->Prop}:∀ {l₁:List α} {l₂:List β},Paired F l₁ l₂->(∀ a b,F a b->G a b)->Paired G l₁ l₂
 | _,_,.nil,_ => .nil
 | _,_,.cons r t,f => .cons (f _ _ r) (Paired.yG t f)
theorem YO.stay (x:YO P w H h a o) (k:∀ b u,(b=a\/H b=some (.own a))->h.get? b=some u->h'.get? b=some u)
  (ho:∀ b,H b=some (.own a)->H' b=some (.own a)) (ht:∀ b xs,H b=some (.tup xs)->H' b=some (.tup xs)):YO P w H' h' a o:=by
 induction o with
 | lst xs=>obtain ⟨z,its,n,r,e⟩:=x;exact ⟨z,its,n,r,k _ _ (.inl rfl) e⟩
 | tup xs=>obtain ⟨z,its,r,ob,e,c⟩:=x;exact ⟨z,its,r,ob,k _ _ (.inl rfl) e,c⟩
 | dK kvs=>obtain ⟨z,y,vs,r,ob,es,ep,e,c⟩:=x;exact ⟨z,y,vs,r,ob,es,ep,k _ _ (.inl rfl) e,c⟩
 | dT kvs =>
  obtain ⟨z,y,xs,r,ob,es,ep,e,c⟩:=x;exact ⟨z,y,xs,Paired.yG r fun p q z=>⟨z.1,ht _ _ z.2.1,z.2.2⟩,ob,es,ep,k _ _ (.inl rfl) e,c⟩
 | set S n=>obtain ⟨ob,es,ep,t,e,c⟩:=x;exact ⟨ob,es,ep,t,k _ _ (.inl rfl) e,c⟩
 | ins C dx fs =>
  obtain ⟨d,z,ne,e,mA,⟨od,es,ep,e2,c⟩,r⟩:=x;exact ⟨ho _ d,z,ne,k _ _ (.inl rfl) e,mA,⟨od,es,ep,k _ _ (.inr d) e2,c⟩,r⟩
 | own y=>obtain ⟨ob,e⟩:=x;exact ⟨ob,k _ _ (.inl rfl) e⟩
 | xd fs=>obtain ⟨mA,⟨od,es,ep,e,c⟩,r⟩:=x;exact ⟨mA,⟨od,es,ep,k _ _ (.inl rfl) e,c⟩,r⟩
 | rng lo hi=>obtain ⟨t,u,v,e⟩:=x;exact ⟨t,u,v,k _ _ (.inl rfl) e⟩
 | cM ob u ih=>obtain ⟨e,q⟩:=x;exact ⟨k _ _ (.inl rfl) e,ih q⟩
 | aU ps =>
  have e:h.get? a=some { cls := .none,data := .fields ps }:=x
  show h'.get? a=some { cls := .none,data := .fields ps }
  exact k a _ (.inl rfl) e
 | met f y =>
  have e:h.get? a=some (W.methodObj (.ref f) (.ref y)):=x
  show h'.get? a=some (W.methodObj (.ref f) (.ref y))
  exact k a _ (.inl rfl) e
 | ext φ=>obtain ⟨p,⟨o,e⟩,st⟩:=x;exact ⟨st _ _ p fun o q=>k _ _ (.inl rfl) q,⟨o,k _ _ (.inl rfl) e⟩,st⟩
theorem bD.lt (x:bD P w H h) (e:H a=some o):a<h.objs.size:=(x a o e).lt
theorem bD.fresh (x:bD P w H h) (e:h.objs.size<=a):H a=none:=by
 cases q:H a with
 | none=>rfl
 | some u=>exact absurd (χ (x.lt q) e) (dC _)
theorem bD.kept (x:bD P w H h) (k:∀ b u,h.get? b=some u->h'.get? b=some u):bD P w H h':=fun a o e =>
 (x a o e).stay (fun b u _ q=>k b u q) (fun _ q=>q) fun _ _ q=>q
theorem bD.laid (x:bD P w H h) (k:∀ b u,h.get? b=some u->h'.get? b=some u) (hp:h.objs.size<=a) (new:YO P w (upd H a o) h' a o):bD P w (upd H a o) h':=fun b u e=>by
 have hn:=x.fresh hp;by_cases hb:b=a
 ·subst hb;rw [Yb] at e;cases e;exact new
 ·rw [Ye hb] at e
  exact (x b u e).stay (fun c v _ q=>k c v q) (fun c q=>by rw [Ye (Yj q hn)];exact q) fun c xs q=>by rw [Ye (Yj q hn)];exact q
end
def Rd (H:Hp) (a:Addr) (u:HO):Prop:=H a=some u\/∃ o,H a=some (.cM o u)
theorem Rd.ok {P:Ρ} {w:Ω} {H:Hp} {h:Heap} {a:Addr} {u:HO} (r:Rd H a u) (x:bD P w H h):YO P w H h a u:=by
 rcases r with r | ⟨o,r⟩
 ·exact x a u r
 ·obtain ⟨_,q⟩:=x a _ r
  exact q
def qW:Option HO->Prop
 | some (.lst _)=>True
 | some (.dK _)=>True
 | some (.dT _)=>True
 | some (.set _ _)=>True
 | some (.ins _ _ _)=>True
 | some (.ext _)=>True
 | _=>False
section
variable {P:Ρ} {w:Ω} {H:Hp} {h h':Heap} {x e:Addr} {o':HO}
theorem bD.write (ok:bD P w H h) (mu:qW (H x)) (he:e=x\/H e=some (.own x)) (k:∀ b u,b≠e->h.get? b=some u->h'.get? b=some u) (heo:∃ u,h'.get? e=some u)
  (new:YO P w (upd H x o') h' x o'):bD P w (upd H x o') h':=fun b u q=>by
 have yH:∀ c y,H c=some (.own y)->c≠x:=fun c y r z=>by subst z;rw [r] at mu;exact mu
 have Rt:∀ c xs,H c=some (.tup xs)->c≠x:=fun c xs r z=>by subst z;rw [r] at mu;exact mu
 by_cases hb:b=x
 ·subst hb;rw [Yb] at q;cases q;exact new
 ·rw [Ye hb] at q
  by_cases hbe:b=e
  ·have q':H b=some (.own x):=by
    rcases he with z | z
    ·exact absurd (hbe.trans z) hb
    ·rw [hbe];exact z
   rw [q] at q';cases q'
   obtain ⟨v,hv⟩:=heo;exact ⟨v,by rw [hbe];exact hv⟩
  ·refine (ok b u q).stay (fun c v hc r=>k c v ?_ r) (fun c r=>by rw [Ye (yH c b r)];exact r) fun c xs r=>by rw [Ye (Rt c xs r)];exact r
   rcases hc with rfl | hc
   ·exact hbe
   ·rintro rfl
    rcases he with z | z
    ·exact yH c b hc z
    ·rw [hc] at z;cases z;exact hb rfl
end
structure Un (fs ex:List Addr) (H H':Hp) (h h':Heap):Prop where
 keep:∀ b o,h.get? b=some o->H b=none->b∉fs->b∉ex->h'.get? b=some o
 slot:∀ b o,h.get? b=some o->H b=none->b∈fs->b∉ex->∃ sl,h'.get? b=some { o with slots:=sl }
 free:∀ b o,h.get? b=some o->H b=none->b∉ex->H' b=none
 there:∀ b o,h.get? b=some o->b∉ex->∃ o',h'.get? b=some o'
 tups:∀ b xs,H b=some (.tup xs)->H' b=some (.tup xs)
 bF:∀ b o u,H b=some (.cM o u)->H' b=some (.cM o u)
 cJ:∀ b ps,H b=some (.aU ps)->∃ more,H' b=some (.aU (ps++more))
section
variable {fs fs' ex ex':List Addr} {H H1 H2:Hp} {h h1 h2 h':Heap} {a x e:Addr} {o:HO}
theorem Un.any (u:Un fs ex H H1 h h1) {b:Addr} {ob:Obj} (q:h.get? b=some ob) (n:H b=none) (hx:b∉ex):∃ sl,h1.get? b=some { ob with slots:=sl }:=by
 by_cases hb:b∈fs
 ·exact u.slot b ob q n hb hx
 ·exact ⟨ob.slots,u.keep b ob q n hb hx⟩
theorem Un.kept (k:∀ b u,h.get? b=some u->h'.get? b=some u):Un fs ex H H h h' :=
 ⟨fun b ob q _ _ _=>k b ob q,fun b ob q _ _ _=>⟨ob.slots,k b ob q⟩,fun _ _ _ n _=>n,fun b ob q _=>⟨ob,k b ob q⟩,fun _ _ q=>q,fun _ _ _ q=>q,fun _ ps q=>⟨#[],by rw [q];simp⟩⟩
theorem Un.refl:Un fs ex H H h h:=Un.kept fun _ _ q=>q
theorem Un.laid (k:∀ b u,h.get? b=some u->h'.get? b=some u) (hp:h.objs.size<=a) (hn:H a=none):Un fs ex H (upd H a o) h h' where
 keep:=fun b u q _ _ _=>k b u q
 slot:=fun b u q _ _ _=>⟨u.slots,k b u q⟩
 free:=fun b u q n _=>by rw [Ye (ρ (χ (Φ q) hp))];exact n
 there:=fun b u q _=>⟨u,k b u q⟩
 tups:=fun b xs q=>by rw [Ye (Yj q hn)];exact q
 bF:=fun b u xs q=>by rw [Ye (Yj q hn)];exact q
 cJ:=fun b ps q=>⟨#[],by rw [Ye (Yj q hn),q];simp⟩
theorem Un.write (mu:qW (H x)) (he:e=x\/H e=some (.own x)) (k:∀ b u,b≠e->h.get? b=some u->h'.get? b=some u) (heo:∃ u,h'.get? e=some u):Un fs ex H (upd H x o) h h':=by
 have hx:∀ b,H b=none->b≠x:=fun b n z=>by subst z;rw [n] at mu;exact mu
 have hb:∀ b,H b=none->b≠e:=fun b n z=>by
  subst z;rcases he with r | r
  ·exact hx b n r
  ·rw [n] at r;cases r
 have hm:∀ b u,H b=some u->¬ qW (some u)->b≠x:=fun b u q nm z=>by subst z;rw [q] at mu;exact nm mu
 refine ⟨fun b u q n _ _=>k b u (hb b n) q,fun b u q n _ _=>⟨u.slots,k b u (hb b n) q⟩,fun b u q n _=>by rw [Ye (hx b n)];exact n,fun b u q _=>?_,
  fun b xs q=>by rw [Ye (hm b _ q fun z=>z)];exact q,fun b u xs q=>by rw [Ye (hm b _ q fun z=>z)];exact q,fun b ps q=>⟨#[],by rw [Ye (hm b _ q fun z=>z),q];simp⟩⟩
 by_cases hbe:b=e
 ·subst hbe;exact heo
 ·exact ⟨u,k b u hbe q⟩
end
def uX (h:Heap) (H:Hp):List Addr:=(a9 h.objs.size).filter fun a=>(H a).isSome
def WP (h:Heap) (H:Hp):Heap:=W.hideAll h (uX h H)
theorem Tt (h:Heap) (H:Hp):(WP h H).objs.size=h.objs.size:=W.hideAll_size _ _
theorem Tv {h:Heap} {H:Hp} {b:Addr} {o:Obj} (e:h.get? b=some o) (n:H b=none):(WP h H).get? b=some o :=
 W.hideAll_get _ e fun hm=>by
  have q:(H b).isSome=true:=(List.mem_filter.mp hm).2;rw [n] at q;simp at q
theorem Tw {h:Heap} {H:Hp} {b:Addr} {o:Obj} (e:(WP h H).get? b=some o):h.get? b=some o/\H b=none:=by
 have e':h.get? b=some o:=W.of_hideAll (uX h H) e;refine ⟨e',?_⟩
 cases q:H b with
 | none=>rfl
 | some x =>
  have hm:b∈uX h H:=List.mem_filter.mpr ⟨gh.mpr (Φ e'),by simp [q]⟩;have z:(WP h H).get? b=none:=W.hideAll_none (uX h H) hm;rw [z] at e;cases e
def Tz (g h:Heap) (L:Addr):List (Addr×Obj):=(a9 h.objs.size).filterMap fun a=>if a=L\/(g.get? a).isSome=true then none else (h.get? a).map fun o=>(a,o)
def Y2 (g h:Heap) (L d:Addr):List (Addr×Obj):=(Tz g h L).filter fun p=>decide (p.1≠d)
structure Mod (K:Ι) (mg:Str->Option Α) (base:Heap):Prop where
 jc:K.In base
 glob:base.Ns aw mg
 blt:∃ mb,base.Ns iF mb/\∀ x:Str,x≠"__name__"->mb x=d6 x
 nolimit:base.NoLimit
structure Cx where
 prog:Ρ
 w:Ω
 K:Ι
 mg:Str->Option Α
 base:Heap
 A:η
 N:List Str
 s₀:Β
 H₀:Hp
 env:Env
 outer:List Env
 stack:List Env
 ex:List Addr
 fn:Str->Bool
 calm:Bool
 pn:List (Addr×Obj)
 xe:Α->Β->Prop
def frs (l:List Env):List Addr:=l.filterMap (·.frame)
abbrev Cx.fs (X:Cx):List Addr:=frs X.outer
def qX (sc:da) (x:Str):Prop:=sc.names.lookup x=some .local\/sc.names.lookup x=some .cell\/sc.names.lookup x=some .free
def Loc (sc:da) (x:Str):Prop:=sc.names.lookup x=some .local\/sc.names.lookup x=some .cell
def Look (env:Env) (h:Heap) (m:Str->Option Α) (x:Str) (u:Α):Prop :=
 (env.kindOf x=some .local/\m x=some u)\/((env.kindOf x=some .cell\/env.kindOf x=some .free)/\∃ c,env.cells.lookup x=some c/\h.IsCell c (some u))
structure Cx.Ok (X:Cx):Prop where
 mod:Mod X.K X.mg X.base
 kind:X.env.scope.kind = .function
 glob:X.env.globals=aw
 blt:X.env.builtins=iF
 above:X.s₀.heap.objs.size<=X.env.locals
 inj:∀ x y c,X.env.cells.lookup x=some c->X.env.cells.lookup y=some c->x=y
 has:∀ x,(X.env.kindOf x=some .cell\/X.env.kindOf x=some .free)->∃ c,X.env.cells.lookup x=some c
 cab:∀ x c,X.fn x=true->X.env.cells.lookup x=some c->X.s₀.heap.objs.size<=c
 hd:X.calm=true->X.A.handled=none
 frames:X.A.frames=some X.stack
 stk:X.stack=X.outer\/(X.stack=X.env::X.outer/\X.env.frame=some X.env.locals)
 uY:∀ b∈X.ex,b≠X.env.locals/\∀ x c,X.env.cells.lookup x=some c->c≠b
 bs:∀ b o,X.base.get? b=some o->X.s₀.heap.get? b=some o/\X.H₀ b=none
 gR:X.base.objs.size<=X.s₀.heap.objs.size
 jL:∀ b o,X.base.get? b=some o->b∉X.ex
 kJ:∀ b∈X.ex,b∉X.fs
 dz:X.s₀.heap.FunFrames X.base X.outer
 iz:∀ b∈X.fs,X.H₀ b=none
structure Inv (X:Cx) (pins:List (Addr×Obj)) (σ:List (Option V)) (H:Hp) (s:Β):Prop where
 ok:X.Ok
 os:s.os=X.s₀.os
 bare:hV s.gens
 base:Un X.fs X.ex X.H₀ H X.s₀.heap s.heap
 loc:∃ m,s.heap.Ns X.env.locals m/\∀ (i:Nat) (x:Str) (v:V),X.N[i]?=some x->σ[i]?=some (some v)->qX X.env.scope x->∃ u,YH v u/\Look X.env s.heap m x u
 cell:∀ x c,X.env.cells.lookup x=some c->∃ v,s.heap.IsCell c v
 free:H X.env.locals=none
 aZ:∀ x c,X.env.cells.lookup x=some c->H c=none
 pin:∀ p∈X.pn++pins,s.heap.get? p.1=some p.2/\H p.1=none/\p.1≠X.env.locals/\p.1∉X.fs/\∀ v,p.2.data ≠ .cell v
 hok:bD X.prog X.w H s.heap
 len:σ.length=X.N.length
section
variable {X:Cx} {pins:List (Addr×Obj)} {σ:List (Option V)} {H H':Hp} {s:Β} {h':Heap}
theorem Cx.Ok.Ru (ok:X.Ok) {b:Addr} {o:Obj} (e:X.base.get? b=some o):b∉X.fs:=fun hb=>by
 have:=(ok.dz.mem hb).1;rw [e] at this;cases this
theorem Inv.bs (I:Inv X pins σ H s):∀ b o,X.base.get? b=some o->s.heap.get? b=some o/\H b=none:=fun b o e =>
 ⟨I.base.keep b o (I.ok.bs b o e).1 (I.ok.bs b o e).2 (I.ok.Ru e) (I.ok.jL b o e),I.base.free b o (I.ok.bs b o e).1 (I.ok.bs b o e).2 (I.ok.jL b o e)⟩
theorem Inv.bk (I:Inv X pins σ H s):∀ b o,X.base.get? b=some o->s.heap.get? b=some o:=fun b o e=>(I.bs b o e).1
theorem Inv.mod (I:Inv X pins σ H s):Mod X.K X.mg X.base:=I.ok.mod
theorem Inv.bf (I:Inv X pins σ H s):X.K.In s.heap:=I.ok.mod.jc.keeps I.bk
theorem Inv.lt (I:Inv X pins σ H s):X.env.locals<s.heap.objs.size:=let ⟨_,hn,_⟩:=I.loc;hn.lt
theorem Inv.sz (I:Inv X pins σ H s):X.s₀.heap.objs.size<=s.heap.objs.size:=ap I.ok.above (fT I.lt)
theorem Inv.Rv (I:Inv X pins σ H s) {a:Addr} (h:s.heap.objs.size<=a):a∉X.fs:=fun hb=>by
 obtain ⟨_,o,ho,_⟩:=I.ok.dz.mem hb;exact absurd (χ (Φ ho) (ap I.sz h)) (dC _)
theorem Inv.jd (I:Inv X pins σ H s):∀ x c,X.env.cells.lookup x=some c->c≠X.env.locals:=fun x c e z=>by
 obtain ⟨v,o,ho,hd⟩:=I.cell x c e;obtain ⟨m,⟨o',es,ep,ho',hd',_⟩,_⟩:=I.loc;rw [z,ho'] at ho;cases ho;rw [hd'] at hd;cases hd
theorem Inv.dz (I:Inv X pins σ H s):s.heap.FunFrames X.base X.outer:=by
 have all:∀ (l:List Env),(∀ b∈frs l,b∈X.fs)->X.s₀.heap.FunFrames X.base l->s.heap.FunFrames X.base l:=by
  intro l
  induction l with
  | nil=>intro _ _;trivial
  | cons env r ih =>
   intro hs hl;obtain ⟨hk,⟨L,o,hf,hn,ho,hd⟩,hr⟩:=hl;have hL:L∈X.fs:=hs L (by unfold frs;rw [cS,hf];exact ee);obtain ⟨sl,e⟩:=I.base.slot L o ho (I.ok.iz L hL) hL fun z=>I.ok.kJ L z hL
   exact ⟨hk,⟨L,_,hf,hn,e,hd⟩,ih (fun b hb=>hs b (by unfold frs;rw [cS,hf];exact bb _ hb)) hr⟩
 exact all X.outer (fun _ hb=>hb) I.ok.dz
theorem Inv.stack (I:Inv X pins σ H s):s.heap.FunFrames X.base X.stack:=by
 rcases I.ok.stk with e | ⟨e,hf⟩
 ·rw [e];exact I.dz
 ·rw [e]
  obtain ⟨m,hn,_⟩:=I.loc;refine .cons (by rw [I.ok.kind];decide) hf hn ?_ I.dz;exact Heap.get?_none_of_le (ap I.ok.gR I.ok.above)
theorem Inv.jh (I:Inv X pins σ H s):∀ b∈frs X.stack,b∈X.env.locals::X.fs:=fun b hb=>by
 rcases I.ok.stk with e | ⟨e,hf⟩
 ·rw [e] at hb;exact bb _ hb
 ·rw [e] at hb
  unfold frs at hb;rw [cS,hf] at hb
  exact hb
theorem Inv.gb (I:Inv X pins σ H s):∀ b∈frs X.stack,H b=none:=fun b hb=>by
 rcases Ψ.mp (I.jh b hb) with e | hb
 ·rw [e];exact I.free
 ·obtain ⟨_,o,ho,_⟩:=I.ok.dz.mem hb
  exact I.base.free b o ho (I.ok.iz b hb) fun z=>I.ok.kJ b z hb
theorem Inv.step {g':Array GenState} {t':Nat} {d':Drawn} {ch:List Addr} (I:Inv X pins σ H s)
  (hch:∀ b∈ch,(b∈X.ex\/X.s₀.heap.objs.size<=b)/\b≠X.env.locals/\(∀ x c,X.env.cells.lookup x=some c->c≠b)/\∀ p∈X.pn++pins,p.1≠b)
  (keep:∀ b o,b≠X.env.locals->b∉X.fs->b∉ch->s.heap.get? b=some o->H b=none->h'.get? b=some o)
  (slot:∀ b o,b≠X.env.locals->b∈X.fs->b∉ch->s.heap.get? b=some o->H b=none->∃ sl,h'.get? b=some { o with slots:=sl }) (free:∀ b o,b∉ch->s.heap.get? b=some o->H b=none->H' b=none)
  (there:∀ b o,b∉ch->s.heap.get? b=some o->∃ o',h'.get? b=some o')
  (tups:∀ b xs,H b=some (.tup xs)->H' b=some (.tup xs)) (bF:∀ b o u,H b=some (.cM o u)->H' b=some (.cM o u)) (cJ:∀ b ps,H b=some (.aU ps)->∃ more,H' b=some (.aU (ps++more)))
  (ns:∀ m,s.heap.Ns X.env.locals m->h'.Ns X.env.locals m) (hok:bD X.prog X.w H' h') (hg:hV g') :
  Inv X pins σ H' { s with heap:=h',gens:=g',drawn:=d',toks:=t' }:=by
 have Jl:∀ b o,X.s₀.heap.get? b=some o->b≠X.env.locals:=fun b o e=>ρ (χ (Φ e) I.ok.above)
 have uZ:∀ b o,X.s₀.heap.get? b=some o->b∉X.ex->b∉ch:=fun b o e hx hb=>by
  rcases (hch b hb).1 with z | z
  ·exact hx z
  ·exact absurd (χ (Φ e) z) (dC _)
 have cellK:∀ x c,X.env.cells.lookup x=some c->∀ v,s.heap.IsCell c v->h'.IsCell c v:=fun x c e v ⟨o,ho,hd⟩=>by
  have qY:c∉ch:=fun z=>(hch c z).2.2.1 x c e rfl
  by_cases hc:c∈X.fs
  ·obtain ⟨sl,q⟩:=slot c o (I.jd x c e) hc qY ho (I.aZ x c e)
   exact ⟨_,q,hd⟩
  ·exact ⟨o,keep c o (I.jd x c e) hc qY ho (I.aZ x c e),hd⟩
 refine ⟨I.ok,I.os,hg,⟨fun b o e n hb hx=>?_,fun b o e n hb hx=>?_,fun b o e n hx=>?_,fun b o e hx=>?_,fun b xs e=>tups b xs (I.base.tups b xs e),fun b o xs e=>bF b o xs (I.base.bF b o xs e),fun b ps e=>?_⟩,?_,fun x c e=>?_,?_,fun x c e=>?_,fun p hp=>?_,hok,I.len⟩
 ·exact keep b o (Jl b o e) hb (uZ b o e hx) (I.base.keep b o e n hb hx) (I.base.free b o e n hx)
 ·obtain ⟨sl,e1⟩:=I.base.slot b o e n hb hx
  obtain ⟨sl',e2⟩:=slot b _ (Jl b o e) hb (uZ b o e hx) e1 (I.base.free b o e n hx);exact ⟨sl',e2⟩
 ·obtain ⟨o',e1⟩:=I.base.there b o e hx
  exact free b o' (uZ b o e hx) e1 (I.base.free b o e n hx)
 ·obtain ⟨o',e1⟩:=I.base.there b o e hx
  exact there b o' (uZ b o e hx) e1
 ·obtain ⟨m1,e1⟩:=I.base.cJ b ps e
  obtain ⟨m2,e2⟩:=cJ b _ e1;exact ⟨m1++m2,by rw [e2,Array.append_assoc]⟩
 ·obtain ⟨m,hn,hl⟩:=I.loc
  refine ⟨m,ns m hn,fun i x v e1 e2 e3=>?_⟩;obtain ⟨u,r,l⟩:=hl i x v e1 e2 e3;refine ⟨u,r,?_⟩;rcases l with l | ⟨k,c,e,z⟩
  ·exact .inl l
  ·exact .inr ⟨k,c,e,cellK x c e _ z⟩
 ·obtain ⟨v,z⟩:=I.cell x c e
  exact ⟨v,cellK x c e v z⟩
 ·obtain ⟨m,⟨o,_,_,ho,_⟩,_⟩:=I.loc
  exact free _ o (fun z=>(hch _ z).2.1 rfl) ho I.free
 ·obtain ⟨v,o,ho,hd⟩:=I.cell x c e
  exact free c o (fun z=>(hch c z).2.2.1 x c e rfl) ho (I.aZ x c e)
 ·obtain ⟨e,n,ne,nf,d⟩:=I.pin p hp
  have qY:p.1∉ch:=fun z=>(hch p.1 z).2.2.2 p hp rfl
  exact ⟨keep p.1 p.2 ne nf qY e n,free p.1 p.2 qY e n,ne,nf,d⟩
theorem Inv.un {t':Nat} (I:Inv X pins σ H s) (u:Un X.fs [] H H' s.heap h') (hok:bD X.prog X.w H' h'):Inv X pins σ H' { s with heap:=h',toks:=t' }:=by
 obtain ⟨m,⟨o,es,ep,ho,r⟩,_⟩:=id I.loc;obtain ⟨sl,hL⟩:=u.any ho I.free (by simp);exact I.step (g':=s.gens) (d':=s.drawn) (ch:=[]) (fun _ z=>nomatch z) (fun b o _ hb _ e n=>u.keep b o e n hb (by simp)) (fun b o _ hb _ e n=>u.slot b o e n hb (by simp)) (fun b o _ e n=>u.free b o e n (by simp)) (fun b o _ e=>u.there b o e (by simp)) u.tups u.bF u.cJ (fun m' hm=>by
  obtain ⟨o',es',ep',ho',r'⟩:=hm;rw [ho] at ho';cases ho'
  exact ⟨_,es',ep',hL,r'⟩) hok I.bare
theorem Inv.call {g':Array GenState} {t':Nat} {d':Drawn} {ch:List Addr} (I:Inv X pins σ H s) (u:Un (frs X.stack) ch H H' s.heap h') (hok:bD X.prog X.w H' h') (hg:hV g')
  (hch:∀ b∈ch,(b∈X.ex\/X.s₀.heap.objs.size<=b)/\b≠X.env.locals/\(∀ x c,X.env.cells.lookup x=some c->c≠b)/\∀ p∈X.pn++pins,p.1≠b) :
  Inv X pins σ H' { s with heap:=h',gens:=g',drawn:=d',toks:=t' }:=by
 obtain ⟨m,⟨o,es,ep,ho,r⟩,_⟩:=id I.loc;obtain ⟨sl,hL⟩:=u.any ho I.free fun z=>(hch _ z).2.1 rfl
 exact I.step (ch:=ch) hch (fun b o hL hb hc e n=>u.keep b o e n (fun z=>(Ψ.mp (I.jh b z)).elim hL hb) hc) (fun b o _ _ hc e n=>u.any e n hc) (fun b o hc e n=>u.free b o e n hc) (fun b o hc e=>u.there b o e hc) u.tups u.bF u.cJ (fun m' hm=>by
  obtain ⟨o',es',ep',ho',r'⟩:=hm;rw [ho] at ho';cases ho'
  exact ⟨_,es',ep',hL,r'⟩) hok hg
theorem Inv.turned {t':Nat} {it:Addr} (I:Inv X pins σ H s) (k:∀ b o,b≠it->s.heap.get? b=some o->h'.get? b=some o) (hn:H it=none) (hL:it≠X.env.locals)
  (h1:it∈X.ex\/X.s₀.heap.objs.size<=it) (h2:∀ x c,X.env.cells.lookup x=some c->c≠it) (h3:∀ p∈X.pn++pins,p.1≠it):Inv X pins σ H { s with heap:=h',toks:=t' }:=by
 have ji:∀ b u,H b=some u->b≠it:=fun b u e z=>by rw [z,hn] at e;cases e
 refine I.step (g':=s.gens) (d':=s.drawn) (ch:=[it]) (fun b hb=>?_) (fun b o _ _ hc e _=>k b o (fun z=>hc (by simp [z])) e) (fun b o _ _ hc e _=>⟨o.slots,k b o (fun z=>hc (by simp [z])) e⟩) (fun _ _ _ _ n=>n)
  (fun b o hc e=>⟨o,k b o (fun z=>hc (by simp [z])) e⟩) (fun _ _ e=>e) (fun _ _ _ e=>e) (fun b ps e=>⟨#[],by rw [e];simp⟩) (fun m hm=>?_) (fun b u e=>?_) I.bare
 ·have e:b=it:=by simpa using hb
  subst e;exact ⟨h1,hL,h2,h3⟩
 ·obtain ⟨o,es,ep,ho,r⟩:=hm
  exact ⟨o,es,ep,k _ o (ψ hL) ho,r⟩
 ·refine (I.hok b u e).stay (fun c v hc q=>k c v ?_ q) (fun _ q=>q) fun _ _ q=>q
  rcases hc with z | z
  ·rw [z];exact ji b u e
  ·exact ji c _ z
theorem Inv.tok (I:Inv X pins σ H s) (t:Nat):Inv X pins σ H { s with toks:=t }:=I.un (h':=s.heap) (t':=t) Un.refl I.hok
theorem Inv.kept {t':Nat} (I:Inv X pins σ H s) (k:∀ b u,s.heap.get? b=some u->h'.get? b=some u):Inv X pins σ H { s with heap:=h',toks:=t' }:=I.un (Un.kept k) (I.hok.kept k)
theorem Inv.laid {a:Addr} {o:HO} {t':Nat} (I:Inv X pins σ H s) (k:∀ b u,s.heap.get? b=some u->h'.get? b=some u) (hp:s.heap.objs.size<=a) (new:YO X.prog X.w (upd H a o) h' a o) :
  Inv X pins σ (upd H a o) { s with heap:=h',toks:=t' }:=I.un (Un.laid k hp (I.hok.fresh hp)) (I.hok.laid k hp new)
theorem Inv.write {x e:Addr} {o:HO} {t':Nat} (I:Inv X pins σ H s) (mu:qW (H x)) (he:e=x\/H e=some (.own x)) (k:∀ b u,b≠e->s.heap.get? b=some u->h'.get? b=some u) (heo:∃ u,h'.get? e=some u)
  (new:YO X.prog X.w (upd H x o) h' x o):Inv X pins σ (upd H x o) { s with heap:=h',toks:=t' }:=I.un (Un.write mu he k heo) (I.hok.write mu he k heo new)
theorem Inv.pq {iR:List (Addr×Obj)} (I:Inv X pins σ H s) (h:∀ p∈iR,s.heap.get? p.1=some p.2/\H p.1=none/\p.1≠X.env.locals/\p.1∉X.fs/\∀ v,p.2.data ≠ .cell v):Inv X iR σ H s :=
 ⟨I.ok,I.os,I.bare,I.base,I.loc,I.cell,I.free,I.aZ,fun p hp=>(τ.mp hp).elim (fun z=>I.pin p (List.mem_append_left _ z)) (h p),I.hok,I.len⟩
theorem Ug {N:List Str} (hN:N.Nodup) {i j:Nat} {x:Str} (a:N[i]?=some x) (b:N[j]?=some x):i=j:=by
 obtain ⟨h1,e1⟩:=Η.mp a;obtain ⟨h2,e2⟩:=Η.mp b;exact (List.getElem_inj hN).mp (e1.trans e2.symm)
theorem TF {M:Model} {A:η} {E:Α->Β->Prop} {i:Nat} {x:Str} {v:V} {u:Α} {Q:Unit->Β->Prop} (I:Inv X pins σ H s) (hN:X.N.Nodup) (hi:X.N[i]?=some x) (hx:Loc X.env.scope x) (r:YH v u)
  (h:∀ s',Inv X pins (σ.set i (some v)) H s'->(∃ a,cy a s.heap s'.heap/\(a=X.env.locals\/X.env.cells.lookup x=some a))->Q () s') (hf:X.fn x=true\/X.env.scope.names.lookup x=some .local:=by first | exact .inl rfl | exact .inr rfl | assumption):Μ M A (storeName X.env x u) Q E s:=by
 obtain ⟨m,hn,hl⟩:=id I.loc;have hcls:(X.env.scope.kind == .class||(X.env.scope.kind == .module&&X.env.locals != X.env.globals))=false:=by rw [I.ok.kind];rfl
 have yI:i<σ.length:=by rw [I.len];exact (Η.mp hi).1
 have jd:=I.jd;have tracked:∀ {a:Addr} {h':Heap},(∃ o,s.heap.get? a=some o/\H a=none)->cy a s.heap h'->bD X.prog X.w H h':=fun {a h'} ha hs b ob e=>by
  obtain ⟨_,_,hfree⟩:=ha;refine (I.hok b ob e).stay (fun c w' hc q=>(hs.2 c ?_).trans q) (fun _ q=>q) fun _ _ q=>q
  rintro rfl;rcases hc with rfl | hc
  ·rw [hfree] at e;cases e
  ·rw [hfree] at hc;cases hc
 rcases hx with hk | hk
 ·refine wpAny_storeName_local hk hn (fun h' hn' hs=>?_) hcls
  obtain ⟨oL,_,_,hoL,_⟩:=id hn;refine h _ ⟨I.ok,I.os,I.bare,⟨fun b o e n hb hx=>?_,fun b o e n hb hx=>?_,I.base.free,fun b o e hx=>?_,I.base.tups,I.base.bF,I.base.cJ⟩,⟨_,hn',fun j y v' e1 e2 e3=>?_⟩,fun y c e=>?_,I.free,I.aZ,fun p hp=>?_,tracked ⟨oL,hoL,I.free⟩ hs,by simpa using I.len⟩ ⟨_,hs,.inl rfl⟩
  ·exact (hs.2 b (ρ (χ (Φ e) I.ok.above))).trans (I.base.keep b o e n hb hx)
  ·obtain ⟨sl,e1⟩:=I.base.slot b o e n hb hx
   exact ⟨sl,(hs.2 b (ρ (χ (Φ e) I.ok.above))).trans e1⟩
  ·obtain ⟨o',e1⟩:=I.base.there b o e hx
   exact ⟨o',(hs.2 b (ρ (χ (Φ e) I.ok.above))).trans e1⟩
  ·by_cases hj:j=i
   ·subst hj
    rw [hi] at e1;cases e1
    rw [List.getElem?_set_self yI] at e2
    cases e2
    exact ⟨u,r,.inl ⟨hk,by simp⟩⟩
   ·rw [List.getElem?_set_ne (ψ hj)] at e2
    obtain ⟨u',r',q⟩:=hl j y v' e1 e2 e3;refine ⟨u',r',?_⟩;rcases q with ⟨k,e⟩ | ⟨k,c,e,z⟩
    ·refine .inl ⟨k,?_⟩
     have:y≠x:=fun e=>hj (Ug hN e1 (e▸hi))
     simp [this,e]
    ·exact .inr ⟨k,c,e,z.sameBut hs (jd y c e)⟩
  ·obtain ⟨w',z⟩:=I.cell y c e
   exact ⟨w',z.sameBut hs (jd y c e)⟩
  ·obtain ⟨e,n,ne,nf,d⟩:=I.pin p hp
   exact ⟨(hs.2 p.1 ne).trans e,n,ne,nf,d⟩
 ·have hfn:X.fn x=true:=by
   rcases hf with z | z
   ·exact z
   ·rw [z] at hk;cases hk
  obtain ⟨c,hc⟩:=I.ok.has x (.inl hk);obtain ⟨w',z⟩:=I.cell x c hc;refine wpAny_storeName_cell I.ok.kind hk hc z (fun h' hc' hs=>?_);obtain ⟨oc,hoc,Rw⟩:=id z;refine h { s with heap:=h' } ⟨I.ok,I.os,I.bare,⟨fun b o e n hb hx=>?_,fun b o e n hb hx=>?_,I.base.free,fun b o e hx=>?_,I.base.tups,I.base.bF,I.base.cJ⟩,⟨m,hn.sameBut hs (ψ (jd x c hc)),fun j y v' e1 e2 e3=>?_⟩,fun y c' e=>?_,I.free,I.aZ,fun p hp=>?_,tracked ⟨oc,hoc,I.aZ x c hc⟩ hs,by simpa using I.len⟩ ⟨c,hs,.inr hc⟩
  ·exact (hs.2 b (ρ (χ (Φ e) (I.ok.cab x c hfn hc)))).trans (I.base.keep b o e n hb hx)
  ·obtain ⟨sl,e1⟩:=I.base.slot b o e n hb hx
   exact ⟨sl,(hs.2 b (ρ (χ (Φ e) (I.ok.cab x c hfn hc)))).trans e1⟩
  ·obtain ⟨o',e1⟩:=I.base.there b o e hx
   exact ⟨o',(hs.2 b (ρ (χ (Φ e) (I.ok.cab x c hfn hc)))).trans e1⟩
  ·by_cases hj:j=i
   ·subst hj
    rw [hi] at e1;cases e1
    rw [List.getElem?_set_self yI] at e2
    cases e2
    exact ⟨u,r,.inr ⟨.inl hk,c,hc,hc'⟩⟩
   ·rw [List.getElem?_set_ne (ψ hj)] at e2
    obtain ⟨u',r',q⟩:=hl j y v' e1 e2 e3;refine ⟨u',r',?_⟩;rcases q with q | ⟨k,c',e,z'⟩
    ·exact .inl q
    ·refine .inr ⟨k,c',e,z'.sameBut hs ?_⟩
     rintro rfl;exact hj (Ug hN e1 (I.ok.inj _ _ _ e hc▸hi))
  ·by_cases hcc:c'=c
   ·subst hcc;exact ⟨_,hc'⟩
   ·obtain ⟨w2,z2⟩:=I.cell y c' e
    exact ⟨w2,z2.sameBut hs hcc⟩
  ·obtain ⟨e,n,ne,nf,d⟩:=I.pin p hp
   refine ⟨(hs.2 p.1 ?_).trans e,n,ne,nf,d⟩;intro q;rw [q,hoc] at e
   have q':oc=p.2:=Ε e;exact d w' (by rw [<- q'];exact Rw)
theorem Vr {M:Model} {A:η} {E:Α->Β->Prop} {i:Nat} {x:Str} {v:V} {u:Α} {Q:Unit->Β->Prop} (I:Inv X pins σ H s) (hN:X.N.Nodup) (hi:X.N[i]?=some x) (hx:Loc X.env.scope x) (r:YH v u)
  (h:∀ s',Inv X pins (σ.set i (some v)) H s'->Q () s') (hf:X.fn x=true\/X.env.scope.names.lookup x=some .local:=by first | exact .inl rfl | exact .inr rfl | assumption):Μ M A (storeName X.env x u) Q E s :=
 TF I hN hi hx r (fun s' I' _=>h s' I') hf
theorem Inv.call' {s':Β} {ch:List Addr} (I:Inv X pins σ H s) (ho:s'.os=s.os) (u:Un (frs X.stack) ch H H' s.heap s'.heap) (hok:bD X.prog X.w H' s'.heap) (hg:hV s'.gens)
  (hch:∀ b∈ch,(b∈X.ex\/X.s₀.heap.objs.size<=b)/\b≠X.env.locals/\(∀ x c,X.env.cells.lookup x=some c->c≠b)/\∀ p∈X.pn++pins,p.1≠b):Inv X pins σ H' s':=by
 obtain ⟨h',g',d',t',o'⟩:=s';have e:o'=s.os:=ho;subst e;exact I.call (g':=g') (t':=t') (d':=d') u hok hg hch
end
abbrev XK:=Α->Option Addr->Hp->Prop
abbrev St:=List (Option V)
abbrev VK:=V->Hp->Prop
abbrev TE:=St->Hp->VK->Prop
abbrev TT:=St->Hp->(Bool->Hp->Prop)->Prop
abbrev TA:=St->Hp->(List V->Hp->Prop)->Prop
structure Ends where
 nx:St->Hp->Prop
 rt:VK
 bk:St->Hp->Prop:=fun _ _=>False
 ct:St->Hp->Prop:=fun _ _=>False
abbrev TS:=Ends->St->Hp->Prop
def EP (X:Cx) (pins:List (Addr×Obj)) (σ:St) (Q:VK) (u:Α) (s':Β):Prop:=∃ v H',Inv X pins σ H' s'/\YH v u/\Q v H'
def TP (X:Cx) (pins:List (Addr×Obj)) (σ:St) (Q:Bool->Hp->Prop) (b:Bool) (s':Β):Prop:=∃ H',Inv X pins σ H' s'/\Q b H'
def AP (X:Cx) (pins:List (Addr×Obj)) (σ:St) (Q:List V->Hp->Prop) (us:List Α) (s':Β):Prop:=∃ vs H',Inv X pins σ H' s'/\Yz vs us/\Q vs H'
def SP (X:Cx) (pins:List (Addr×Obj)) (D:Ends) (f:Flow) (s':Β):Prop :=
 match f with
 | .next=>∃ σ' H',Inv X pins σ' H' s'/\D.nx σ' H'
 | .brk=>∃ σ' H',Inv X pins σ' H' s'/\D.bk σ' H'
 | .cont=>∃ σ' H',Inv X pins σ' H' s'/\D.ct σ' H'
 | .ret u=>∃ v σ' H',Inv X pins σ' H' s'/\YH v u/\D.rt v H'
def PE (X:Cx) (e:Expr) (t:TE):Prop :=
 ∀ (pins:List (Addr×Obj)) (s:Β) (σ:St) (H:Hp) (Q:VK),Inv X pins σ H s->t σ H Q->Μ (Ξ X.prog X.w) X.A (eval e X.env) (EP X pins σ Q) X.xe s
def PT (X:Cx) (e:Expr) (t:TT):Prop :=
 ∀ (pins:List (Addr×Obj)) (s:Β) (σ:St) (H:Hp) (Q:Bool->Hp->Prop),Inv X pins σ H s->t σ H Q->Μ (Ξ X.prog X.w) X.A (isTrue e X.env (eval e X.env)) (TP X pins σ Q) X.xe s
def PW (X:Cx) (e:Expr) (t:TT):Prop :=
 ∀ (whole:Sem Α) (pins:List (Addr×Obj)) (s:Β) (σ:St) (H:Hp) (Q:Bool->Hp->Prop),Inv X pins σ H s->t σ H Q->Μ (Ξ X.prog X.w) X.A (isTrue e X.env whole) (TP X pins σ Q) X.xe s
theorem PW.pt {X:Cx} {e:Expr} {t:TT} (h:PW X e t):PT X e t:=h _
def PA (X:Cx) (es:List Expr) (t:TA):Prop :=
 ∀ (pos:Pos) (pins:List (Addr×Obj)) (s:Β) (σ:St) (H:Hp) (Q:List V->Hp->Prop),Inv X pins σ H s->t σ H Q->Μ (Ξ X.prog X.w) X.A (spliced (be pos (Τ es X.env))) (AP X pins σ Q) X.xe s
def PS (X:Cx) (st:Stmt) (t:TS):Prop :=
 ∀ (pins:List (Addr×Obj)) (s:Β) (σ:St) (H:Hp) (D:Ends),Inv X pins σ H s->t D σ H->Μ (Ξ X.prog X.w) X.A (exec st X.env) (SP X pins D) X.xe s
def eH (X:Cx) (st:List Stmt) (t:TS):Prop :=
 ∀ (pins:List (Addr×Obj)) (s:Β) (σ:St) (H:Hp) (D:Ends),Inv X pins σ H s->t D σ H->Μ (Ξ X.prog X.w) X.A (execs st X.env) (SP X pins D) X.xe s
theorem aG {α:Type} {t:Sem α} {Q Q':α->Β->Prop} {M:Model} {A:η} {E:Α->Β->Prop} {s:Β} (h:Μ M A t Q E s) (hQ:∀ a s,Q a s->Q' a s):Μ M A t Q' E s:=aa h hQ fun _ _ x=>x
section
variable {X:Cx}
def kI (x:V) (k:Int->Prop):Prop:=match x with | .int i=>k i | _=>False
def kB (x:V) (k:Bool->Prop):Prop:=match x with | .bl i=>k i | _=>False
def kR (x:V) (k:Addr->Prop):Prop:=match x with | .ref i=>k i | _=>False
def k1 (l:List V) (k:V->Prop):Prop:=match l with | [x]=>k x | _=>False
def k2 (l:List V) (k:V->V->Prop):Prop:=match l with | [x,y]=>k x y | _=>False
theorem Jm (i:Int) (k:Int->Prop):kI (.int i) k=k i:=rfl
theorem Jo (i:Bool) (k:Bool->Prop):kB (.bl i) k=k i:=rfl
theorem Jp (i:Addr) (k:Addr->Prop):kR (.ref i) k=k i:=rfl
theorem Jq (x:V) (k:V->Prop):k1 [x] k=k x:=rfl
theorem Jr (x y:V) (k:V->V->Prop):k2 [x,y] k=k x y:=rfl
theorem UT {x:V} {k:Int->Prop}:kI x k↔∃ i,x = .int i/\k i:=⟨fun h=>by cases x<;>first | exact ⟨_,rfl,h⟩ | exact h.elim,fun ⟨_,e,h⟩=>e▸h⟩
theorem VI {x:V} {k:Bool->Prop}:kB x k↔∃ i,x = .bl i/\k i:=⟨fun h=>by cases x<;>first | exact ⟨_,rfl,h⟩ | exact h.elim,fun ⟨_,e,h⟩=>e▸h⟩
theorem WQ {x:V} {k:Addr->Prop}:kR x k↔∃ i,x = .ref i/\k i:=⟨fun h=>by cases x<;>first | exact ⟨_,rfl,h⟩ | exact h.elim,fun ⟨_,e,h⟩=>e▸h⟩
theorem yJ {l:List V} {k:V->Prop} (h:k1 l k):∃ x,l=[x]/\k x:=by
 unfold k1 at h
 split at h
 ·exact ⟨_,rfl,h⟩
 ·exact h.elim
theorem uh {l:List V} {k:V->V->Prop} (h:k2 l k):∃ x y,l=[x,y]/\k x y:=by
 unfold k2 at h
 split at h
 ·exact ⟨_,_,rfl,h⟩
 ·exact h.elim
def jD:Nat->St->(V->Prop)->Prop
 | 0,σ,k=>match σ with | some v::_=>k v | _=>False
 | n+1,σ,k=>match σ with | _::l=>jD n l k | []=>False
theorem Js (v:V) (l:St) (k:V->Prop):jD 0 (some v::l) k=k v:=rfl
theorem Jt (n:Nat) (a:Option V) (l:St) (k:V->Prop):jD (n+1) (a::l) k=jD n l k:=rfl
theorem Ju:∀ {n:Nat} {σ:St} {k:V->Prop},jD n σ k->∃ v,σ[n]?=some (some v)/\k v
 | 0,σ,k,h=>by
  unfold jD at h
  split at h
  ·exact ⟨_,rfl,h⟩
  ·exact h.elim
 | n+1,σ,k,h=>by
  unfold jD at h
  split at h
  ·exact Ju (n:=n) h
  ·exact h.elim
theorem Uv:∀ {n:Nat} {σ:St} {k:V->Prop} {v:V},σ[n]?=some (some v)->k v->jD n σ k
 | _,[],_,_,e,_=>by simp at e
 | 0,a::σ,k,v,e,h=>by
  have:a=some v:=by simpa using e
  subst this;exact h
 | n+1,a::σ,k,v,e,h=>Uv (n:=n) (σ:=σ) (by simpa using e) h
def Vs (i:Nat):TE:=fun σ H Q=>jD i σ fun v=>Q v H
def tC (v:V):TE:=fun _ H Q=>Q v H
theorem QU {i:Nat} {x:Str} {pos:Pos} (hN:X.N[i]?=some x) (hv:qX X.env.scope x) (hd:(x==("__debug__":Str))=false:=by decide) (hcd:(x==("__classdict__":Str))=false:=by decide):PE X (.Name x pos) (Vs i):=by
 intro pins s σ H Q I h;obtain ⟨v,e,h⟩:=Ju h;obtain ⟨m,hn,hl⟩:=I.loc;obtain ⟨u,r,l⟩:=hl i x v hN e hv;have fin:EP X pins σ Q u s:=⟨v,H,I,r,h⟩;rcases l with ⟨hk,hm⟩ | ⟨hk,c,hc,hcell⟩
 ·exact wpAny_Name (wpAny_loadName_local I.ok.kind hk hn hm fin) hd
 ·rcases hk with hk | hk
  ·exact wpAny_Name (wpAny_loadName_cell I.ok.kind hk hc hcell fin) hd
  ·exact wpAny_Name (wpAny_loadName_free I.ok.kind hk hc hcell fin hcd) hd
theorem Yh {i j pos}:PE X (.Constant (.int i) j pos) (tC (.int i)):=fun _ _ _ H _ I h=>wpAny_Constant_int ⟨.int i,H,I.tok _,⟨_,rfl⟩,h⟩
theorem XT {b j pos}:PE X (.Constant (.bool b) j pos) (tC (.bl b)):=fun _ _ _ H _ I h=>Constant_bool ⟨.bl b,H,I,rfl,h⟩
theorem Xk {j pos}:PE X (.Constant .none j pos) (tC .non):=fun _ _ _ H _ I h=>Constant_none ⟨.non,H,I,rfl,h⟩
theorem Yx {x j pos}:PE X (.Constant (.str x) j pos) (tC (.str x)):=fun _ _ _ H _ I h=>Calls.Constant_str ⟨.str x,H,I.tok _,⟨_,rfl⟩,h⟩
def Gl (X:Cx) (x:Str):Prop:=X.env.kindOf x=some .globalImplicit
theorem X8 {E:Α->Β->Prop} {pins:List (Addr×Obj)} {s:Β} {σ:St} {H:Hp} {x:Str} {u:Α} {pos:Pos} {Q:Α->Β->Prop} (I:Inv X pins σ H s) (hg:Gl X x) (hm:X.mg x=some u) (h:Q u s)
  (hd:(x==("__debug__":Str))=false:=by decide):Μ (Ξ X.prog X.w) X.A (eval (.Name x pos) X.env) Q E s :=
 Calls.Name_function_global I.ok.kind hg (Calls.loadGlobal_global (by rw [I.ok.glob];exact I.mod.glob.keeps I.bk) hm h) hd
theorem X0 {E:Α->Β->Prop} {pins:List (Addr×Obj)} {s:Β} {σ:St} {H:Hp} {x:Str} {u:Α} {pos:Pos} {Q:Α->Β->Prop} (I:Inv X pins σ H s) (hg:Gl X x) (hm:X.mg x=none) (hv:d6 x=some u) (h:Q u s)
  (hn:x≠"__name__":=by decide) (hd:(x==("__debug__":Str))=false:=by decide):Μ (Ξ X.prog X.w) X.A (eval (.Name x pos) X.env) Q E s:=by
 obtain ⟨mb,h1,h2⟩:=I.mod.blt;exact Calls.Name_function_global I.ok.kind hg (Calls.loadGlobal_builtin (by rw [I.ok.glob];exact I.mod.glob.keeps I.bk) hm (by rw [I.ok.blt];exact h1.keeps I.bk) ((h2 x hn).trans hv) h) hd
theorem Jv {x:Str} {v:V} {u:Α} {pos:Pos} (hg:Gl X x) (hm:X.mg x=some u) (r:YH v u) (hd:(x==("__debug__":Str))=false:=by decide):PE X (.Name x pos) (tC v) :=
 fun _ _ _ H _ I h=>X8 I hg hm ⟨v,H,I,r,h⟩ hd
theorem TJ {x:Str} {v:V} {u:Α} {pos:Pos} (hg:Gl X x) (hm:X.mg x=none) (hv:d6 x=some u) (r:YH v u) (hn:x≠"__name__":=by decide) (hd:(x==("__debug__":Str))=false:=by decide):PE X (.Name x pos) (tC v) :=
 fun _ _ _ H _ I h=>X0 I hg hm hv ⟨v,H,I,r,h⟩ hn hd
variable {a b:Expr} {ta tb:TE} {pos:Pos}
def tB (t:TE):TT:=fun σ H Q=>t σ H fun x H1=>kB x fun c=>Q c H1
theorem YT {e:Expr} {t:TE} (h:PE X e t) (he:∀ whole,isTrue e X.env whole=(do let v <- whole;standAt e.pos;holding [v] (truthy v))):PT X e (tB t):=by
 intro pins s σ H Q I hw;refine isTrue_plain (aG (h pins s σ H _ I hw) fun v s1 ⟨x,H1,I1,r1,q1⟩=>?_) (he _);obtain ⟨d,rfl,q⟩:=VI.mp q1
 cases r1
 exact dA ⟨H1,I1,q⟩
variable {tA Jw:TT} {Y2:List Expr}
def yK (t u:TT):TT:=fun σ H Q=>t σ H fun c H1=>if c=true then u σ H1 Q else Q false H1
def yL (t u:TT):TT:=fun σ H Q=>t σ H fun c H1=>if c=true then Q true H1 else u σ H1 Q
def um (t:TT):TT:=fun σ H Q=>t σ H fun c H1=>Q (!c) H1
theorem WC (ha:PT X a tA):PW X (.BoolOp .Or [a] pos) tA:=by
 intro wh pins s σ H Q I h;refine isTrue_or (aG (ha pins s σ H Q I h) fun c s1 e=>?_)
 cases c with
 | false=>exact isTrue_or_nil e
 | true=>exact e
theorem XN (ha:PT X a tA) (hb:PW X (.BoolOp .Or (b::Y2) pos) Jw):PW X (.BoolOp .Or (a::b::Y2) pos) (yL tA Jw):=by
 intro wh pins s σ H Q I h;refine isTrue_or (aG (ha pins s σ H _ I h) fun c s1 ⟨H1,I1,q1⟩=>?_)
 cases c with
 | true=>exact ⟨H1,I1,q1⟩
 | false=>exact hb wh pins s1 σ H1 Q I1 q1
theorem Xt (ha:PT X a tA):PT X (.UnaryOp .Not a pos) (um tA):=by
 intro pins s σ H Q I h;exact isTrue_not (ha pins s σ H (fun c H1=>Q (!c) H1) I h)
def yM (ta tb:TE):TE:=fun σ H Q=>ta σ H fun x H1=>kB x fun c=>if c=true then tb σ H1 Q else Q (.bl false) H1
def yN (ta tb:TE):TE:=fun σ H Q=>ta σ H fun x H1=>kB x fun c=>if c=true then Q (.bl true) H1 else tb σ H1 Q
def yO (ta:TE):TE:=fun σ H Q=>ta σ H fun x H1=>kB x fun c=>Q (.bl (!c)) H1
theorem XQ {op} {t:TE} (h:PE X a t):PE X (.BoolOp op [a] pos) t:=fun pins s σ H Q I hw=>BoolOp_one (h pins s σ H Q I hw)
theorem XA (ha:PE X a ta) (hb:PE X (.BoolOp .And (b::Y2) pos) tb):PE X (.BoolOp .And (a::b::Y2) pos) (yM ta tb):=by
 intro pins s σ H Q I h;refine BoolOp_and (aG (ha pins s σ H _ I h) fun v s1 ⟨x,H1,I1,r1,q1⟩=>?_)
 replace q1:=VI.mp q1
 obtain ⟨c,rfl,q1⟩:=q1
 cases r1
 refine dA ?_
 cases c with
 | true=>exact hb pins s1 σ H1 Q I1 q1
 | false=>exact ⟨.bl false,H1,I1,rfl,q1⟩
theorem VJ (ha:PE X a ta):PE X (.UnaryOp .Not a pos) (yO ta):=by
 intro pins s σ H Q I h;refine UnaryOp_ (aG (ha pins s σ H _ I h) fun v s1 ⟨x,H1,I1,r1,q1⟩=>?_)
 replace q1:=VI.mp q1
 obtain ⟨c,rfl,q1⟩:=q1
 cases r1
 exact not_of (dA ⟨.bl (!c),H1,I1,rfl,q1⟩)
def yP (t:TT) (ta tb:TE):TE:=fun σ H Q=>t σ H fun c H1=>if c=true then ta σ H1 Q else tb σ H1 Q
theorem TQ {c:Expr} (hc:PT X c tA) (ha:PE X a ta) (hb:PE X b tb):PE X (.IfExp c a b pos) (yP tA ta tb):=by
 intro pins s σ H Q I h;refine wpAny_IfExp (aG (hc pins s σ H _ I h) fun d s1 ⟨H1,I1,q1⟩=>?_)
 cases d with
 | true=>exact ha pins s1 σ H1 Q I1 q1
 | false=>exact hb pins s1 σ H1 Q I1 q1
end
def aA (K:Ι) (H:Hp) (a:Addr) (xs:List V):Prop :=
 Rd H a (.lst xs) \/
  ∃ (o:Obj) (its:Array Α) (n:Nat),K.lookup a=some o/\o.cls = .type "list"/\o.dict=none/\o.data = .seq its n/\its.size<=sizeLine/\Yz xs its.toList
def aq (K:Ι) (H:Hp) (a:Addr) (xs:List V):Prop :=
 Rd H a (.tup xs) \/
  ∃ (o:Obj) (its:Array Α) (n:Nat),K.lookup a=some o/\o.cls = .type "tuple"/\o.data = .seq its n/\its.size<=sizeLine/\Yz xs its.toList
def Rx:Α->Option V
 | .none=>some .non
 | .bool b=>some (.bl b)
 | .int i _=>some (.int i)
 | .str x _=>some (.str x)
 | .bytes b _=>some (.iZ b)
 | .float b _=>some (.flt b)
 | .ref a=>some (.ref a)
 | .type n=>some (.ty n)
 | _=>none
theorem YH.abs {x:V} {u:Α} (r:YH x u):Rx u=some x:=by
 cases x with
 | non=>cases r;rfl
 | bl _=>cases r;rfl
 | int _=>obtain ⟨t,rfl⟩:=r;rfl
 | str _=>obtain ⟨t,rfl⟩:=r;rfl
 | iZ _=>obtain ⟨t,rfl⟩:=r;rfl
 | flt _=>obtain ⟨t,rfl⟩:=r;rfl
 | ref _=>cases r;rfl
 | ty _=>cases r;rfl
theorem YH.inj {x y:V} {u:Α} (r:YH x u) (q:YH y u):x=y:=Ε (r.abs.symm.trans q.abs)
theorem Yz.inj:∀ {xs ys:List V} {us:List Α},Yz xs us->Yz ys us->xs=ys
 | _,_,_,.nil,.nil=>rfl
 | _,_,_,.cons r t,.cons r' t'=>by rw [r.inj r',Yz.inj t t']
section
variable {X:Cx} {pins:List (Addr×Obj)} {σ:St} {H:Hp} {s:Β} {a:Addr} {xs ys:List V}
theorem aA.of {K:Ι} (h:H a=some (.lst xs)):aA K H a xs := .inl (.inl h)
theorem aq.of {K:Ι} (h:H a=some (.tup xs)):aq K H a xs := .inl (.inl h)
theorem Inv.list (I:Inv X pins σ H s) (h:aA X.K H a xs):∃ its:List Α,Yz xs its/\PlainL s.heap a its.toArray/\xs.length<=sizeLine:=by
 rcases h with h | ⟨o,its,n,hk,hc,hd,hs,hz,r⟩
 ·obtain ⟨z,its,n,r,e⟩:=h.ok I.hok
  exact ⟨its,r,⟨_,n,e,rfl,rfl,rfl⟩,z⟩
 ·refine ⟨its.toList,r,⟨o,n,I.bf a o hk,hc,hd,by simpa using hs⟩,?_⟩
  have e:=r.length;simp only [Array.length_toList] at e;omega
theorem Inv.tuple (I:Inv X pins σ H s) (h:aq X.K H a xs):∃ its:List Α,Yz xs its/\IsTup s.heap a its.toArray/\xs.length<=sizeLine:=by
 rcases h with h | ⟨o,its,n,hk,hc,hs,hz,r⟩
 ·obtain ⟨z,its,r,p⟩:=h.ok I.hok
  exact ⟨its,r,p,z⟩
 ·refine ⟨its.toList,r,⟨o,I.bf a o hk,hc,n,by simpa using hs⟩,?_⟩
  have e:=r.length;simp only [Array.length_toList] at e;omega
theorem Inv.mO (I:Inv X pins σ H s) (h:aA X.K H a xs) (h':aA X.K H a ys):xs=ys:=by
 obtain ⟨its,r,⟨o,n,e,_,_,d⟩,_⟩:=I.list h;obtain ⟨its',r',⟨o',n',e',_,_,d'⟩,_⟩:=I.list h';rw [e] at e';cases e'
 rw [d] at d'
 injection d' with d1 _
 have:its=its':=by simpa using congrArg Array.toList d1
 subst this;exact r.inj r'
theorem Inv.lq (I:Inv X pins σ H s) (h:aq X.K H a xs) (h':aq X.K H a ys):xs=ys:=by
 obtain ⟨its,r,⟨o,e,_,n,d⟩,_⟩:=I.tuple h;obtain ⟨its',r',⟨o',e',_,n',d'⟩,_⟩:=I.tuple h';rw [e] at e';cases e'
 rw [d] at d'
 injection d' with d1 _
 have:its=its':=by simpa using congrArg Array.toList d1
 subst this;exact r.inj r'
end
abbrev Cx.wish (X:Cx) (E:Α->Β->Prop):Cx:={ X with xe:=E }
abbrev Cx.eZ (X:Cx):Cx:=X.wish fun _ _=>False
theorem Cx.Ok.wish {X:Cx} (ok:X.Ok) (E:Α->Β->Prop):(X.wish E).Ok :=
 ⟨ok.mod,ok.kind,ok.glob,ok.blt,ok.above,ok.inj,ok.has,ok.cab,ok.hd,ok.frames,ok.stk,ok.uY,ok.bs,ok.gR,ok.jL,ok.kJ,ok.dz,ok.iz⟩
theorem Cx.Ok.dM {X:Cx} {E:Α->Β->Prop} (ok:(X.wish E).Ok):X.Ok :=
 ⟨ok.mod,ok.kind,ok.glob,ok.blt,ok.above,ok.inj,ok.has,ok.cab,ok.hd,ok.frames,ok.stk,ok.uY,ok.bs,ok.gR,ok.jL,ok.kJ,ok.dz,ok.iz⟩
section
variable {X:Cx} {pins:List (Addr×Obj)} {σ:St} {H:Hp} {s:Β} {E:Α->Β->Prop}
theorem Inv.wish (I:Inv X pins σ H s) (E:Α->Β->Prop):Inv (X.wish E) pins σ H s:=⟨I.ok.wish E,I.os,I.bare,I.base,I.loc,I.cell,I.free,I.aZ,I.pin,I.hok,I.len⟩
theorem Inv.dM (I:Inv (X.wish E) pins σ H s):Inv X pins σ H s:=⟨I.ok.dM,I.os,I.bare,I.base,I.loc,I.cell,I.free,I.aZ,I.pin,I.hok,I.len⟩
theorem SP.dM {D:Ends} {f:Flow} {s':Β} (h:SP (X.wish E) pins D f s'):SP X pins D f s':=by
 cases f with
 | next=>obtain ⟨σ',H',I,q⟩:=h;exact ⟨σ',H',I.dM,q⟩
 | brk=>obtain ⟨σ',H',I,q⟩:=h;exact ⟨σ',H',I.dM,q⟩
 | cont=>obtain ⟨σ',H',I,q⟩:=h;exact ⟨σ',H',I.dM,q⟩
 | ret u=>obtain ⟨v,σ',H',I,r,q⟩:=h;exact ⟨v,σ',H',I.dM,r,q⟩
theorem eH.eZ {st:List Stmt} {t:TS} (h:eH X.eZ st t):eH X st t:=fun pins s σ H D I hw =>
 aa (h pins s σ H D (I.wish _) hw) (fun _ _ q=>q.dM) fun _ _ z=>az z
end
section
variable {X:Cx} {st:Stmt} {Y2:List Stmt} {t u:TS} {e:Expr} {te:TE} {pos:Pos}
def Uw:TS:=fun D σ H=>D.nx σ H
def Uh (t u:TS):TS:=fun D σ H=>t { D with nx:=u D } σ H
theorem Yp:eH X [] Uw:=fun _ _ σ H _ I h=>fh ⟨σ,H,I,h⟩
theorem Yd (h1:PS X st t) (h2:eH X Y2 u):eH X (st::Y2) (Uh t u):=by
 intro pins s σ H D I h;refine gy (aG (h1 pins s σ H { D with nx:=u D } I h) fun f s1 q=>?_)
 cases f with
 | next =>
  obtain ⟨σ',H',I',q⟩:=q;exact h2 pins s1 σ' H' D I' q
 | ret v=>exact q
 | brk=>exact q
 | cont=>exact q
theorem Yf (h1:PS X st t):eH X [st] t:=by
 intro pins s σ H D I h;refine gy (aG (h1 pins s σ H D I h) fun f s1 q=>?_)
 cases f with
 | next=>exact fh q
 | ret v=>exact q
 | brk=>exact q
 | cont=>exact q
def Jx:TS:=fun D σ H=>D.bk σ H
def Jy:TS:=fun D σ H=>D.ct σ H
theorem Inv.quiet {pins:List (Addr×Obj)} {σ:St} {H:Hp} {s:Β} (I:Inv X pins σ H s):interactive X.env=false:=by simp [interactive,I.ok.kind]
def QL (te:TE):TS:=fun D σ H=>te σ H fun _ H1=>D.nx σ H1
theorem Xc (he:PE X e te) (hs:kr e none pos.line X.env=pure false:=by rfl):PS X (.Expr e pos) (QL te):=by
 intro pins s σ H D I h;exact wpAny_Expr_any (aG (he pins s σ H _ I h) fun v s1 ⟨x,H1,I1,r1,q1⟩=>⟨σ,H1,I1,q1⟩) I.quiet hs
def uo (te:TE):TS:=fun D σ H=>te σ H D.rt
theorem Yl (he:PE X e te):PS X (.Return (some e) pos) (uo te):=by
 intro pins s σ H D I h;exact wpAny_Return_some (aG (he pins s σ H _ I h) fun v s1 ⟨x,H1,I1,r1,q1⟩=>⟨x,σ,H1,I1,r1,q1⟩)
def Jz:TS:=fun D _ H=>D.rt .non H
def QV (c:TT) (t u:TS):TS:=fun D σ H=>c σ H fun b H1=>if b=true then t D σ H1 else u D σ H1
theorem Yy {c:Expr} {a b:List Stmt} {tc:TT} (hc:PT X c tc) (ha:eH X a t) (hb:eH X b u):PS X (.If c a b pos) (QV tc t u):=by
 intro pins s σ H D I h;refine wpAny_If (aG (hc pins s σ H _ I h) fun d s1 ⟨H1,I1,q1⟩=>?_)
 cases d with
 | true=>exact ha pins s1 σ H1 D I1 q1
 | false=>exact hb pins s1 σ H1 D I1 q1
def QW:TS:=fun _ _ _=>False
theorem YI:PS X st QW:=fun _ _ _ _ _ _ h=>h.elim
end
abbrev TG:=V->St->Hp->(St->Hp->Prop)->Prop
abbrev mQ:=List V->St->Hp->(St->Hp->Prop)->Prop
def PG (X:Cx) (target:Expr) (t:TG):Prop :=
 ∀ (pins:List (Addr×Obj)) (s:Β) (σ:St) (H:Hp) (v:V) (u:Α) (Q:St->Hp->Prop),Inv X pins σ H s->YH v u->t v σ H Q ->
  Μ (Ξ X.prog X.w) X.A (assign target X.env u) (fun _ s'=>∃ σ' H',Inv X pins σ' H' s'/\Q σ' H') X.xe s
def u5 (X:Cx) (ts:List Expr) (t:mQ):Prop :=
 ∀ (pins:List (Addr×Obj)) (s:Β) (σ:St) (H:Hp) (vs:List V) (us:List Α) (Q:St->Hp->Prop),Inv X pins σ H s->Yz vs us->t vs σ H Q ->
  Μ (Ξ X.prog X.w) X.A (assignInOrder ((iL ts X.env).map (·.2)) us) (fun _ s'=>∃ σ' H',Inv X pins σ' H' s'/\Q σ' H') X.xe s
abbrev Ry:=V->V->V->Hp->(Hp->Prop)->Prop
abbrev JB:=V->V->Hp->VK->Prop
section
variable {X:Cx} {pos:Pos}
def YW (i:Nat):TG:=fun v σ H Q=>Q (σ.set i (some v)) H
theorem YD {i:Nat} {x:Str} (hN:X.N.Nodup) (hi:X.N[i]?=some x) (hx:Loc X.env.scope x) (hf:X.fn x=true\/X.env.scope.names.lookup x=some .local:=by first | exact .inl rfl | exact .inr rfl | assumption):PG X (.Name x pos) (YW i):=by
 intro pins s σ H v u Q I r h;exact wpAny_assign_Name (Vr I hN hi hx r (fun s' I'=>⟨_,H,I',h⟩) hf)
def yQ:mQ:=fun vs σ H Q=>vs=[]/\Q σ H
def JC (t:TG) (u:mQ):mQ:=fun vs σ H Q=>∃ v r,vs=v::r/\t v σ H fun σ' H'=>u r σ' H' Q
theorem X9:u5 X [] yQ:=by
 intro pins s σ H vs us Q I r h;obtain ⟨e,h⟩:=h;subst e
 cases r
 exact assignInOrder_nil ⟨σ,H,I,h⟩
theorem Xb {e:Expr} {es:List Expr} {t:TG} {u:mQ} (h1:PG X e t) (h2:u5 X es u)
  (hs:(iL (e::es) X.env).map (·.2)=assign e X.env::(iL es X.env).map (·.2)):u5 X (e::es) (JC t u):=by
 intro pins s σ H vs us Q I r h;obtain ⟨v,vr,e1,h⟩:=h;subst e1
 cases r with
 | cons r rr =>
  rw [hs];refine assignInOrder_cons (aG (h1 pins s σ H _ _ _ I r h) fun _ s1 ⟨σ1,H1,I1,q1⟩=>?_);exact h2 pins s1 σ1 H1 _ _ Q I1 rr q1
def ur (K:Ι) (n:Nat) (t:mQ):TG:=fun v σ H Q=>∃ a xs,v = .ref a/\aq K H a xs/\xs.length=n/\t xs σ H Q
theorem WD {es:List Expr} {k:Nat} {t:mQ} {n:Nat} (hc:X.calm=true) (h:u5 X es t)
  (hn:(iL es X.env).length=n) (hst:(iL es X.env).findIdx? (·.1)=none):PG X (.Tuple es k pos) (ur X.K n t):=by
 intro pins s σ H v u Q I r hw;obtain ⟨a,xs,e1,hq,hl,hw⟩:=hw;subst e1
 cases r
 obtain ⟨its,rv,ht,hz⟩:=I.tuple hq;refine assign_Tuple_tuple (I.ok.hd hc) ht (by simp [hn,<- hl,rv.length]) hst fun h' hx=>?_
 have I1:Inv X pins σ H { s with heap:=h' }:=I.kept (t':=s.toks) fun b o e=>hx b o (ρ (Φ e)) e
 exact h pins _ σ H xs _ Q I1 (by simpa using rv) hw
def yR (to ti:TE) (t:Ry):TG:=fun v σ H Q=>to σ H fun o H1=>ti σ H1 fun i H2=>t o i v H2 fun H3=>Q σ H3
def u9 (te:TE) (g:TG):TS:=fun D σ H=>te σ H fun x H1=>g x σ H1 D.nx
theorem Yv {i:Nat} {x:Str} {e:Expr} {te:TE} {pos':Pos} (hN:X.N.Nodup) (hi:X.N[i]?=some x) (hx:Loc X.env.scope x) (he:PE X e te) (hs:kr e (some (.Name x pos')) pos.line X.env=pure false) (hf:X.fn x=true\/X.env.scope.names.lookup x=some .local) :
  PS X (.Assign [.Name x pos'] e pos) (u9 te (YW i)):=by
 intro pins s σ H D I h;refine wpAny_Assign_Name (aG (he pins s σ H _ I h) fun v s1 ⟨y,H1,I1,r1,q1⟩=>?_) hs;exact Vr I1 hN hi hx r1 (fun s2 I2=>⟨_,H1,I2,q1⟩) hf
def yS (i:Nat) (te:TE) (ti:JB):TS:=fun D σ H=>jD i σ fun x=>te σ H fun y H1=>ti x y H1 fun z H2=>D.nx (σ.set i (some z)) H2
def JD (f:Int->Int->Int):JB:=fun x y H Q=>kI x fun i=>kI y fun j=>Q (.int (f i j)) H
theorem qZ {x y:V} {k:Int->Int->Prop} (h:kI x fun i=>kI y fun j=>k i j):∃ i j,x = .int i/\y = .int j/\k i j:=by
 obtain ⟨i,e,h⟩:=UT.mp h;obtain ⟨j,e',h⟩:=UT.mp h;exact ⟨i,j,e,e',h⟩
def JF (c:TT) (tb:TS):TS:=fun D σ H=>∃ W:Nat->St->Hp->Prop,(∃ m,W m σ H)/\∀ m σ H,W m σ H ->
 c σ H fun b H1=>if b=true then ∃ N:St->Hp->Prop,(∀ σ' H',N σ' H'->∃ m',m'<m/\W m' σ' H')/\tb { D with nx:=N,ct:=N,bk:=D.nx } σ H1 else D.nx σ H1
theorem Wn {c:Expr} {body:List Stmt} {tc:TT} {tb:TS} (hp:PassesOwn (Ξ X.prog X.w) X.A X.env X.xe) (hc:PT X c tc) (hb:eH X body tb):PS X (.While c body [] pos) (JF tc tb):=by
 intro pins s σ H D I h;obtain ⟨W,⟨m0,w0⟩,turn⟩:=h;refine wpAny_While (codeAny_whileLoop (fun n s'=>∃ σ' H',Inv X pins σ' H' s'/\W n σ' H') ?_ m0 ⟨σ,H,I,w0⟩);rintro n s1 ⟨σ1,H1,I1,w1⟩;refine ek hp (aG (hc pins s1 σ1 H1 _ I1 (turn n σ1 H1 w1)) fun b s2 ⟨H2,I2,q2⟩=>?_)
 cases b with
 | true =>
  obtain ⟨N,hN,q2⟩:=q2;rw [if_pos rfl];refine ek hp (aG (hb pins s2 σ1 H2 _ I2 q2) fun f s3 q3=>?_)
  cases f with
  | next =>
   obtain ⟨σ3,H3,I3,n3⟩:=q3;obtain ⟨m',hm,w3⟩:=hN σ3 H3 n3;exact ⟨m',hm,σ3,H3,I3,w3⟩
  | cont =>
   obtain ⟨σ3,H3,I3,n3⟩:=q3;obtain ⟨m',hm,w3⟩:=hN σ3 H3 n3;exact ⟨m',hm,σ3,H3,I3,w3⟩
  | brk=>exact q3
  | ret v=>exact q3
 | false =>
  rw [if_neg θ];exact fh ⟨σ1,H2,I2,q2⟩
end
structure It where
 go:Nat->Hp->Prop
 lu:Nat->Hp->V->Hp->Prop
 stop:Nat->Hp->Prop
def We (X:Cx) (pins:List (Addr×Obj)) (H:Hp) (b:Addr):Prop :=
 H b=none/\b≠X.env.locals/\b∉X.fs/\(b∈X.ex\/X.s₀.heap.objs.size<=b)/\(∀ x c,X.env.cells.lookup x=some c->c≠b)/\∀ p∈X.pn++pins,p.1≠b
theorem Inv.iT {X:Cx} {pins:List (Addr×Obj)} {σ:St} {H H':Hp} {s:Β} {b:Addr} (I:Inv X pins σ H s) (hb:s.heap.objs.size<=b) (hn:H' b=none):We X pins H' b:=by
 refine ⟨hn,eK (χ I.lt hb),I.Rv hb,.inr (ap I.sz hb),fun x c e z=>?_,fun p hp z=>?_⟩
 ·obtain ⟨v,q⟩:=I.cell x c e
  exact absurd (χ q.lt (by rw [z];exact hb)) (dC _)
 ·exact absurd (χ (Φ (I.pin p hp).1) (by rw [z];exact hb)) (dC _)
structure Turn (P:Ρ) (w:Ω) (K:Ι) (tg:Expr) (J:It) (fp:List Addr) (it:Addr) (tn:Nat->Heap->Prop):Prop where
 mem:it∈fp
 obj:∀ i h,tn i h->∀ b∈fp,∃ o,h.get? b=some o/\∀ v,o.data ≠ .cell v
 keep:∀ i h h',tn i h->(∀ b∈fp,∀ o,h.get? b=some o->h'.get? b=some o)->tn i h'
 item:∀ (X:Cx),X.prog=P->X.w=w->X.K=K->X.calm=true->∀ (i:Nat) (pins:List (Addr×Obj)) (s:Β) (σ:St) (H:Hp) (E:Α->Β->Prop),Inv X pins σ H s->(∀ b∈fp,We X pins H b)->tn i s.heap->J.go i H ->
  Μ (Ξ P w) X.A (pyNext (.ref it)) (fun r s1=>∃ u,r=some u /\
   Μ (Ξ P w) X.A (jv tg (.ref it) u) (fun _ s2=>∃ x H',Inv X pins σ H' s2/\YH x u/\J.lu i H x H'/\tn (i+1) s2.heap/\∀ b∈fp,H' b=none) E s1) E s
 done:∀ (X:Cx),X.prog=P->X.w=w->X.K=K->X.calm=true->∀ (i:Nat) (pins:List (Addr×Obj)) (s:Β) (σ:St) (H:Hp) (E:Α->Β->Prop),Inv X pins σ H s->(∀ b∈fp,We X pins H b)->tn i s.heap->J.stop i H ->
  Μ (Ξ P w) X.A (pyNext (.ref it)) (fun r s1=>r=none/\Inv X pins σ H s1) E s
 self:∀ (A:η) (i:Nat) (s:Β) (Q:Α->Β->Prop) (E:Α->Β->Prop),tn i s.heap->Q (.ref it) s->Μ (Ξ P w) A (pyIter (.ref it)) Q E s
abbrev TI:=St->Hp->(It->Hp->Prop)->Prop
def PIE (X:Cx) (pins:List (Addr×Obj)) (σ:St) (tg:Expr) (R:It->Hp->Prop) (itv:Α) (s2:Β):Prop :=
 ∃ (it:Addr) (fp:List Addr) (tn:Nat->Heap->Prop) (J:It) (H':Hp),itv = .ref it/\Inv X pins σ H' s2/\Turn X.prog X.w X.K tg J fp it tn/\tn 0 s2.heap/\(∀ b∈fp,We X pins H' b)/\R J H'
def PI (X:Cx) (tg iter:Expr) (wi:TI):Prop :=
 ∀ (pins:List (Addr×Obj)) (s:Β) (σ:St) (H:Hp) (R:It->Hp->Prop),Inv X pins σ H s->wi σ H R ->
  Μ (Ξ X.prog X.w) X.A (eval iter X.env) (fun v s1=>Μ (Ξ X.prog X.w) X.A (pyIter v) (PIE X pins σ tg R) X.xe s1) X.xe s
theorem Ux {M:Model} {A:η} {E:Α->Β->Prop} {s:Β} {tg:Expr} {it:Addr} {u:Α} {o:Obj} {n:String} {vs:Array Α} {Q:Unit->Β->Prop} (ho:s.heap.get? it=some o) (hc:o.cls = .type n) (hd:o.data = .fields vs)
  (hn:["enumerate","zip","dict_itemiterator","dict_reverseitemiterator","odict_iterator","itertools.zip_longest","itertools.pairwise"].contains n=false) (hQ:Q () s):Μ M A (jv tg (.ref it) u) Q E s:=by
 unfold jv
 cases tg<;>first
  | exact Ο hQ
  | (cases u<;>first
    | exact Ο hQ
    | (refine Δ (wpAny_load ho ?_)
       rw [hc,hd]
       show Μ M A (if (["enumerate","zip","dict_itemiterator","dict_reverseitemiterator","odict_iterator","itertools.zip_longest","itertools.pairwise"].contains n&&vs[0]?==some (db _))=true then _ else _) Q E s
       rw [if_neg (by intro h;rw [hn,Bool.false_and] at h;cases h)];exact Ο hQ))
def pA (K:Ι) (a:Addr):It :=
 ⟨fun i H=>∃ xs x,aA K H a xs/\xs[i]?=some x,fun i H x H'=>H'=H/\∀ xs,aA K H a xs->xs[i]?=some x,fun i H=>∃ xs,aA K H a xs/\xs.length<=i⟩
def pB (K:Ι) (a:Addr):It :=
 ⟨fun i H=>∃ xs x,aq K H a xs/\xs[i]?=some x,fun i H x H'=>H'=H/\∀ xs,aq K H a xs->xs[i]?=some x,fun i H=>∃ xs,aq K H a xs/\xs.length<=i⟩
def mR (lo:Int) (n:Nat):It:=⟨fun i _=>i<n,fun i H x H'=>H'=H/\x = .int (lo+i),fun i _=>n<=i⟩
theorem TV {P:Ρ} {w:Ω} {K:Ι} {tg:Expr} (a it:Addr):Turn P w K tg (pA K a) [it] it (fun i h=>h.IsListIter it a i) where
 mem:=by simp
 obj:=fun i h st b hb=>by
  have e:b=it:=by simpa using hb
  subst e;obtain ⟨o,e,c,d⟩:=st;exact ⟨o,e,fun v z=>by rw [d] at z;cases z⟩
 keep:=fun i h h' st k=>st.at fun o e=>k it (by simp) o e
 item:=by
  intro X hP hw hK hc i pins s σ H E I hf st hg;subst hP hw hK;obtain ⟨xs,x,hq,hx⟩:=hg;obtain ⟨its,rv,p,hz⟩:=I.list hq;obtain ⟨u,hu,ru⟩:=rv.get hx;obtain ⟨f0,f1,f2,f3,f4,f5⟩:=hf it (by simp);refine wpAny_pyNext_list_item st p.isList (x:=u) (by simpa using hu) fun h' st' sb=>?_
  have I1:Inv X pins σ H { s with heap:=h' }:=I.turned (t':=s.toks) (fun b o hb e=>(sb.2 b hb).trans e) f0 f1 f3 f4 f5;obtain ⟨o,e,c,d⟩:=id st';exact ⟨u,rfl,Ux (s:={ s with heap:=h' }) e c d (by decide) ⟨x,H,I1,ru,⟨rfl,fun ys hy=>by rw [I.mO hy hq];exact hx⟩,st',fun b hb=>(hf b hb).1⟩⟩
 done:=by
  intro X hP hw hK hc i pins s σ H E I hf st hg;subst hP hw hK;obtain ⟨xs,hq,hx⟩:=hg;obtain ⟨its,rv,p,hz⟩:=I.list hq;obtain ⟨f0,f1,f2,f3,f4,f5⟩:=hf it (by simp);have hl:=rv.length;exact wpAny_pyNext_list_end (I.ok.hd hc) st p.isList (by simp;omega) fun h' eb=>⟨rfl,I.turned (t':=s.toks) (fun b o hb e=>eb b o hb e) f0 f1 f3 f4 f5⟩
 self:=fun _ _ _ _ _ st h=>wpAny_pyIter_listiter st h
theorem TX {P:Ρ} {w:Ω} {K:Ι} {tg:Expr} (a it:Addr):Turn P w K tg (pB K a) [it] it (fun i h=>h.IsTupleIter it a i) where
 mem:=by simp
 obj:=fun i h st b hb=>by
  have e:b=it:=by simpa using hb
  subst e;obtain ⟨o,e,c,d⟩:=st;exact ⟨o,e,fun v z=>by rw [d] at z;cases z⟩
 keep:=fun i h h' st k=>st.at fun o e=>k it (by simp) o e
 item:=by
  intro X hP hw hK hc i pins s σ H E I hf st hg;subst hP hw hK;obtain ⟨xs,x,hq,hx⟩:=hg;obtain ⟨its,rv,p,hz⟩:=I.tuple hq;obtain ⟨u,hu,ru⟩:=rv.get hx;obtain ⟨f0,f1,f2,f3,f4,f5⟩:=hf it (by simp);refine wpAny_pyNext_tuple_item st (show s.heap.IsTuple a its.toArray from p) (x:=u) (by simpa using hu) fun h' st' sb=>?_
  have I1:Inv X pins σ H { s with heap:=h' }:=I.turned (t':=s.toks) (fun b o hb e=>(sb.2 b hb).trans e) f0 f1 f3 f4 f5;obtain ⟨o,e,c,d⟩:=id st';exact ⟨u,rfl,Ux (s:={ s with heap:=h' }) e c d (by decide) ⟨x,H,I1,ru,⟨rfl,fun ys hy=>by rw [I.lq hy hq];exact hx⟩,st',fun b hb=>(hf b hb).1⟩⟩
 done:=by
  intro X hP hw hK hc i pins s σ H E I hf st hg;subst hP hw hK;obtain ⟨xs,hq,hx⟩:=hg;obtain ⟨its,rv,p,hz⟩:=I.tuple hq;obtain ⟨f0,f1,f2,f3,f4,f5⟩:=hf it (by simp);have hl:=rv.length;exact wpAny_pyNext_tuple_end (I.ok.hd hc) st (show s.heap.IsTuple a its.toArray from p) (by simp;omega) fun h' eb=>⟨rfl,I.turned (t':=s.toks) (fun b o hb e=>eb b o hb e) f0 f1 f3 f4 f5⟩
 self:=fun _ _ _ _ _ st h=>wpAny_pyIter_tupleiter st h
theorem TY {P:Ρ} {w:Ω} {K:Ι} {tg:Expr} (it:Addr) (lo:Int) (n:Nat):Turn P w K tg (mR lo n) [it] it (fun i h=>i4 h it (lo+(i:Nat)*1) ((n:Int) - (i:Nat)) 1) where
 mem:=by simp
 obj:=fun i h st b hb=>by
  have e:b=it:=by simpa using hb
  subst e;exact ⟨_,st,fun v z=>by
   have z':lh _=Data.cell v:=z
   cases z'⟩
 keep:=fun i h h' st k=>k it (by simp) _ st
 item:=by
  intro X hP hw hK hc i pins s σ H E I hf st hg;subst hP hw hK;obtain ⟨f0,f1,f2,f3,f4,f5⟩:=hf it (by simp);have W:=Walks.range (prog:=X.prog) (w:=X.w) (I.ok.hd hc) it lo 1 n;refine W.item i s _ _ hg st fun v h' tk hv st' kk=>?_
  obtain ⟨t,rfl⟩:=hv;have I1:Inv X pins σ H { s with heap:=h',toks:=tk }:=I.turned (fun b o hb e=>kk b o (by simpa using hb) e) f0 f1 f3 f4 f5;refine ⟨_,rfl,Ux (s:={ s with heap:=h',toks:=tk }) (n:="range_iterator") st' rfl rfl (by decide) ⟨.int (lo+i),H,I1,⟨t,?_⟩,⟨rfl,rfl⟩,st',fun b hb=>(hf b hb).1⟩⟩;rw [Int.mul_one]
 done:=by
  intro X hP hw hK hc i pins s σ H E I hf st hg;subst hP hw hK;obtain ⟨f0,f1,f2,f3,f4,f5⟩:=hf it (by simp);exact wpAny_pyNext_range_end (I.ok.hd hc) st (by have:n<=i:=hg;omega) fun h' eb=>⟨rfl,I.turned (t':=s.toks) (fun b o hb e=>eb b o hb e) f0 f1 f3 f4 f5⟩
 self:=fun _ _ _ _ _ st h=>wpAny_pyIter_rangeiter st h
section
variable {X:Cx} {tg:Expr}
def Wf (K:Ι) (tl:TE):TI:=fun σ H R=>tl σ H fun x H1=>∃ a,x = .ref a/\(∃ xs,aA K H1 a xs)/\R (pA K a) H1
def uw (K:Ι) (tl:TE):TI:=fun σ H R=>tl σ H fun x H1=>∃ a,x = .ref a/\(∃ xs,aq K H1 a xs)/\R (pB K a) H1
theorem Xe {l:Expr} {tl:TE} (hl:PE X l tl):PI X tg l (Wf X.K tl):=by
 intro pins s σ H R I h;refine aG (hl pins s σ H _ I h) fun v s1 ⟨x,H1,I1,r1,q1⟩=>?_
 obtain ⟨a,e,⟨xs,hq⟩,q⟩:=q1;subst e
 cases r1
 obtain ⟨its,rv,p,hz⟩:=I1.list hq;refine wpAny_pyIter_list p.isList ?_;refine ⟨s1.heap.objs.size,[s1.heap.objs.size],_,_,H1,rfl,I1.kept (t':=s1.toks) fun b o e=>Ζ _ e,TV a _,⟨_,δ _ rfl,rfl,rfl⟩,fun b hb=>?_,q⟩;have e:b=s1.heap.objs.size:=by simpa using hb
 subst e;exact I1.iT (Ν _) (I1.hok.fresh (Ν _))
theorem QX {l:Expr} {tl:TE} (hl:PE X l tl):PI X tg l (uw X.K tl):=by
 intro pins s σ H R I h;refine aG (hl pins s σ H _ I h) fun v s1 ⟨x,H1,I1,r1,q1⟩=>?_
 obtain ⟨a,e,⟨xs,hq⟩,q⟩:=q1;subst e
 cases r1
 obtain ⟨its,rv,p,hz⟩:=I1.tuple hq;refine wpAny_pyIter_tuple (show s1.heap.IsTuple a its.toArray from p) ?_;refine ⟨s1.heap.objs.size,[s1.heap.objs.size],_,_,H1,rfl,I1.kept (t':=s1.toks) fun b o e=>Ζ _ e,TX a _,⟨_,δ _ rfl,rfl,rfl⟩,fun b hb=>?_,q⟩;have e:b=s1.heap.objs.size:=by simpa using hb
 subst e;exact I1.iT (Ν _) (I1.hok.fresh (Ν _))
theorem T3 {pins:List (Addr×Obj)} {σ:St} {H:Hp} {s:Β} {R:It->Hp->Prop} {E:Α->Β->Prop} {lo hi:Int} {t u v:Tok} {tk:Nat} (I:Inv X pins σ H s) (h1 : -(2^62)<=lo) (h2:lo<2^62) (h3 : -(2^62)<=hi) (h4:hi<2^62)
  (q:R (mR lo (hi - lo).toNat) H):Μ (Ξ X.prog X.w) X.A (pyIter (.ref s.heap.objs.size)) (PIE X pins σ tg R) E { s with heap:=s.heap.push { cls := .type "range",data := .fields #[.int lo t,.int hi u,.int 1 v] },toks:=tk }:=by
 refine wpAny_pyIter_range (IsRange.new ..) (small_one h1 h2 h3 h4) ?_;have I1:Inv X pins σ H { s with heap:=s.heap.push { cls := .type "range",data := .fields #[.int lo t,.int hi u,.int 1 v] },toks:=tk }:=I.kept fun b o e=>Ζ _ e
 refine ⟨(s.heap.push { cls := .type "range",data := .fields #[.int lo t,.int hi u,.int 1 v] }).objs.size,[(s.heap.push { cls := .type "range",data := .fields #[.int lo t,.int hi u,.int 1 v] }).objs.size],_,_,H,rfl,
  I1.kept (t':=tk) fun b o e=>Ζ _ e,TY _ lo (hi - lo).toNat,?_,fun b hb=>?_,q⟩
 ·have e1:lo+((0:Nat):Int)*1=lo:=by simp
  have e2:(((hi - lo).toNat:Nat):Int) - ((0:Nat):Int)=af lo hi 1:=by rw [rangeSize_one];split<;>omega
  show i4 _ _ (lo+((0:Nat):Int)*1) ((((hi - lo).toNat:Nat):Int) - ((0:Nat):Int)) 1
  rw [e1,e2];exact δ _ rfl
 ·have e:b=(s.heap.push { cls := .type "range",data := .fields #[.int lo t,.int hi u,.int 1 v] }).objs.size:=by simpa using hb
  subst e;exact I1.iT (Ν _) (I1.hok.fresh (Ν _))
def yU (ta:TA):TI:=fun σ H R=>ta σ H fun vs H1=>∃ j:Int,vs=[.int j] /\ -(2^62)<=j/\j<2^62/\R (mR 0 j.toNat) H1
theorem WZ {a:Expr} {ta:TA} {p pos:Pos} (hg:Gl X "range") (hm:X.mg "range"=none) (ha:PA X [a] ta) (hs:Τ [a] X.env=[(false,eval a X.env)]):PI X tg (.Call (.Name "range" p) [a] [] pos) (yU ta):=by
 intro pins s σ H R I h;refine Call_ (X0 I hg hm boot_range (a7 (aG (ha pos pins s σ H _ I h) fun us s1 ⟨vs,H1,I1,r1,q1⟩=>?_) hs rfl));obtain ⟨j,e,q1,q2,q⟩:=q1;subst e
 cases r1 with
 | cons r rr =>
  cases rr
  obtain ⟨t,rfl⟩:=r;exact call_range_1 (T3 I1 (by omega) (by omega) q1 q2 (by simpa using q))
def Vt (wi:TI) (g:TG) (tb:TS):TS:=fun D σ H=>wi σ H fun J H1=>∃ W:Nat->Nat->St->Hp->Prop,(∃ m,W 0 m σ H1)/\∀ i m σ H,W i m σ H ->
 (J.stop i H/\D.nx σ H)\/(J.go i H/\∃ N:St->Hp->Prop,(∀ σ' H',N σ' H'->∃ m',m'<m/\W (i+1) m' σ' H')/\∀ x H',J.lu i H x H'->g x σ H' fun σ2 H2=>tb { D with nx:=N,ct:=N,bk:=D.nx } σ2 H2)
def VM (fp:List Addr) (h:Heap):List (Addr×Obj):=fp.filterMap fun b=>(h.get? b).map fun o=>(b,o)
theorem Wg {fp:List Addr} {h:Heap} {b:Addr} {o:Obj} (hb:b∈fp) (e:h.get? b=some o):(b,o)∈VM fp h:=iq.mpr ⟨b,hb,by rw [e];rfl⟩
theorem T4 {fp:List Addr} {h:Heap} {p:Addr×Obj} (hp:p∈VM fp h):p.1∈fp/\h.get? p.1=some p.2:=by
 obtain ⟨b,hb,e⟩:=iq.mp hp
 cases q:h.get? b with
 | none=>rw [q] at e;cases e
 | some o =>
  rw [q] at e
  have e':(b,o)=p:=Ε e;subst e';exact ⟨hb,q⟩
theorem Inv.pinned {pins:List (Addr×Obj)} {σ:St} {H:Hp} {s:Β} {fp:List Addr} (I:Inv X pins σ H s) (hf:∀ b∈fp,We X pins H b) (ho:∀ b∈fp,∃ o,s.heap.get? b=some o/\∀ v,o.data ≠ .cell v):Inv X (pins++VM fp s.heap) σ H s :=
 I.pq fun p hp=>(τ.mp hp).elim (fun z=>I.pin p (ay _ z)) fun z=>by
  obtain ⟨hb,e⟩:=T4 z;obtain ⟨f0,f1,f2,_⟩:=hf p.1 hb;obtain ⟨o,e',d⟩:=ho p.1 hb;rw [e] at e';cases e'
  exact ⟨e,f0,f1,f2,d⟩
theorem Inv.gj {pins pl:List (Addr×Obj)} {σ:St} {H:Hp} {s:Β} (I:Inv X (pins++pl) σ H s):Inv X pins σ H s:=I.pq fun p hp=>I.pin p (ay _ (List.mem_append_left _ hp))
theorem XE {iter:Expr} {body:List Stmt} {wi:TI} {g:TG} {tb:TS} {pos:Pos} (hp:PassesOwn (Ξ X.prog X.w) X.A X.env X.xe) (hc:X.calm=true) (hi:PI X tg iter wi) (hg:PG X tg g) (hb:eH X body tb)
  (hs:∀ x,foldedSetIterable iter X.env x=pure x):PS X (.For tg iter body [] pos) (Vt wi g tb):=by
 intro pins s σ H D I h;refine wpAny_For (aG (hi pins s σ H _ I h) fun v s1 h1=>aG h1 fun itv s2 h2=>?_) hs;obtain ⟨it,fp,tn,J,H2,e,I2,T,st2,f2,W,⟨m0,w0⟩,turn⟩:=h2;subst e
 -- what stays true of the iterator's objects through the loop
 have stat:∀ {H':Hp},(∀ b∈fp,H' b=none)->∀ b∈fp,We X pins H' b:=fun hn b hb=>⟨hn b hb,(f2 b hb).2⟩
 refine codeAny_forLoop_any (fun n s'=>∃ i σ' H',Inv X pins σ' H' s'/\tn i s'.heap/\(∀ b∈fp,H' b=none)/\W i n σ' H') ?_ m0 ⟨0,σ,H2,I2,st2,fun b hb=>(f2 b hb).1,w0⟩;rintro n s3 ⟨i,σ3,H3,I3,st3,JG,w3⟩;rcases turn i n σ3 H3 w3 with ⟨stop,qn⟩ | ⟨go,N,hN,step⟩
 ·refine ek hp (aG (T.done X rfl rfl rfl hc i pins s3 σ3 H3 X.xe I3 (stat JG) st3 stop) fun r s4 ⟨hr,I4⟩=>?_)
  subst hr;exact fh ⟨σ3,H3,I4,qn⟩
 ·refine ek hp (aG (T.item X rfl rfl rfl hc i pins s3 σ3 H3 X.xe I3 (stat JG) st3 go) fun r s4 ⟨u,hr,h4⟩=>?_)
  subst hr;refine ek hp (aG h4 fun _ s5 ⟨x,H5,I5,r5,y5,pC,mU⟩=>?_);have T5:=I5.pinned (stat mU) (T.obj _ _ pC);refine ek hp (aG (hg _ s5 σ3 H5 x u _ T5 r5 (step x H5 y5)) fun _ s6 ⟨T6,H6,I6,q6⟩=>?_);refine ek hp (aG (hb _ s6 T6 H6 _ I6 q6) fun f s7 q7=>?_);have again:∀ {iB:St} {H7:Hp},Inv X (pins++VM fp s5.heap) iB H7 s7->N iB H7->∃ m,m<n/\∃ i σ' H',Inv X pins σ' H' s7/\tn i s7.heap/\(∀ b∈fp,H' b=none)/\W i m σ' H':=fun {iB H7} I7 n7=>by
   obtain ⟨m',hm,w7⟩:=hN iB H7 n7;refine ⟨m',hm,i+1,iB,H7,I7.gj,T.keep _ _ _ pC fun b hb o e=>(I7.pin (b,o) (ay _ (ay _ (Wg hb e)))).1,fun b hb=>?_,w7⟩;obtain ⟨o,e,d⟩:=T.obj _ _ pC b hb;exact (I7.pin (b,o) (ay _ (ay _ (Wg hb e)))).2.1
  cases f with
  | next=>obtain ⟨iB,H7,I7,n7⟩:=q7;exact again I7 n7
  | cont=>obtain ⟨iB,H7,I7,n7⟩:=q7;exact again I7 n7
  | brk=>obtain ⟨iB,H7,I7,q7⟩:=q7;exact ⟨iB,H7,I7.gj,q7⟩
  | ret v=>obtain ⟨x7,iB,H7,I7,r7,q7⟩:=q7;exact ⟨x7,iB,H7,I7.gj,r7,q7⟩
end
theorem Ui {K:Ι} {a:Addr} {xs:List V} {g:TG} {tb:TS} {D:Ends} {σ:St} {H:Hp} (Pv:Nat->St->Hp->Prop) (h0:Pv 0 σ H) (hl:∀ i σ H,i<=xs.length->Pv i σ H->aA K H a xs)
  (hs:∀ i x σ H,xs[i]?=some x->Pv i σ H->g x σ H fun σ2 H2=>tb { D with nx:=Pv (i+1),ct:=Pv (i+1),bk:=D.nx } σ2 H2) (hd:∀ σ H,Pv xs.length σ H->D.nx σ H) :
  ∃ W:Nat->Nat->St->Hp->Prop,(∃ m,W 0 m σ H)/\∀ i m σ H,W i m σ H ->
   ((pA K a).stop i H/\D.nx σ H)\/((pA K a).go i H/\∃ N:St->Hp->Prop,(∀ σ' H',N σ' H'->∃ m',m'<m/\W (i+1) m' σ' H')/\∀ x H',(pA K a).lu i H x H'->g x σ H' fun σ2 H2=>tb { D with nx:=N,ct:=N,bk:=D.nx } σ2 H2):=by
 refine ⟨fun i m σ H=>m=xs.length - i/\i<=xs.length/\Pv i σ H,⟨xs.length,by simp,ar _,h0⟩,?_⟩;rintro i m σ H ⟨rfl,hi,p⟩;have q:=hl i σ H hi p;by_cases hlt:i<xs.length
 ·refine .inr ⟨⟨xs,xs[i],q,by simp [hlt]⟩,Pv (i+1),fun σ' H' p'=>⟨xs.length - (i+1),by omega,rfl,hlt,p'⟩,fun x H' y=>?_⟩
  obtain ⟨e,y⟩:=y;subst e;exact hs i x σ _ (y xs q) p
 ·have e:i=xs.length:=by omega
  subst e;exact .inl ⟨⟨xs,q,Ν _⟩,hd σ H p⟩
theorem T7 {K:Ι} {a:Addr} {xs:List V} {g:TG} {tb:TS} {D:Ends} {σ:St} {H:Hp} (Pv:Nat->St->Hp->Prop) (h0:Pv 0 σ H) (hl:∀ i σ H,i<=xs.length->Pv i σ H->aq K H a xs)
  (hs:∀ i x σ H,xs[i]?=some x->Pv i σ H->g x σ H fun σ2 H2=>tb { D with nx:=Pv (i+1),ct:=Pv (i+1),bk:=D.nx } σ2 H2) (hd:∀ σ H,Pv xs.length σ H->D.nx σ H) :
  ∃ W:Nat->Nat->St->Hp->Prop,(∃ m,W 0 m σ H)/\∀ i m σ H,W i m σ H ->
   ((pB K a).stop i H/\D.nx σ H)\/((pB K a).go i H/\∃ N:St->Hp->Prop,(∀ σ' H',N σ' H'->∃ m',m'<m/\W (i+1) m' σ' H')/\∀ x H',(pB K a).lu i H x H'->g x σ H' fun σ2 H2=>tb { D with nx:=N,ct:=N,bk:=D.nx } σ2 H2):=by
 refine ⟨fun i m σ H=>m=xs.length - i/\i<=xs.length/\Pv i σ H,⟨xs.length,by simp,ar _,h0⟩,?_⟩;rintro i m σ H ⟨rfl,hi,p⟩;have q:=hl i σ H hi p;by_cases hlt:i<xs.length
 ·refine .inr ⟨⟨xs,xs[i],q,by simp [hlt]⟩,Pv (i+1),fun σ' H' p'=>⟨xs.length - (i+1),by omega,rfl,hlt,p'⟩,fun x H' y=>?_⟩
  obtain ⟨e,y⟩:=y;subst e;exact hs i x σ _ (y xs q) p
 ·have e:i=xs.length:=by omega
  subst e;exact .inl ⟨⟨xs,q,Ν _⟩,hd σ H p⟩
theorem T8 {lo:Int} {n:Nat} {g:TG} {tb:TS} {D:Ends} {σ:St} {H:Hp} (Pv:Nat->St->Hp->Prop) (h0:Pv 0 σ H)
  (hs:∀ i σ H,i<n->Pv i σ H->g (.int (lo+i)) σ H fun σ2 H2=>tb { D with nx:=Pv (i+1),ct:=Pv (i+1),bk:=D.nx } σ2 H2) (hd:∀ σ H,Pv n σ H->D.nx σ H) :
  ∃ W:Nat->Nat->St->Hp->Prop,(∃ m,W 0 m σ H)/\∀ i m σ H,W i m σ H ->
   ((mR lo n).stop i H/\D.nx σ H)\/((mR lo n).go i H/\∃ N:St->Hp->Prop,(∀ σ' H',N σ' H'->∃ m',m'<m/\W (i+1) m' σ' H')/\∀ x H',(mR lo n).lu i H x H'->g x σ H' fun σ2 H2=>tb { D with nx:=N,ct:=N,bk:=D.nx } σ2 H2):=by
 refine ⟨fun i m σ H=>m=n - i/\i<=n/\Pv i σ H,⟨n,by simp,ar _,h0⟩,?_⟩;rintro i m σ H ⟨rfl,hi,p⟩;by_cases hlt:i<n
 ·refine .inr ⟨hlt,Pv (i+1),fun σ' H' p'=>⟨n - (i+1),by omega,rfl,hlt,p'⟩,fun x H' y=>?_⟩
  obtain ⟨e,y⟩:=y;subst e y;exact hs i σ _ hlt p
 ·have e:i=n:=by omega
  subst e;exact .inl ⟨Ν _,hd σ H p⟩
abbrev R2:=V->V->Hp->VK->Prop
def cu (X:Cx) (f:Α->Α->Sem Α) (r:R2):Prop :=
 ∀ (pins:List (Addr×Obj)) (s:Β) (σ:St) (H:Hp) (x y:V) (v u:Α) (Q:VK),Inv X pins σ H s->YH x v->YH y u->r x y H Q ->
  Μ (Ξ X.prog X.w) X.A (f v u) (EP X pins σ Q) X.xe s
def yV (X:Cx) (f:Α->Sem Α) (r:V->Hp->VK->Prop):Prop :=
 ∀ (pins:List (Addr×Obj)) (s:Β) (σ:St) (H:Hp) (x:V) (v:Α) (Q:VK),Inv X pins σ H s->YH x v->r x H Q ->
  Μ (Ξ X.prog X.w) X.A (f v) (EP X pins σ Q) X.xe s
def XC (X:Cx) (f:Α) (r:List V->Hp->VK->Prop):Prop :=
 ∀ (pins:List (Addr×Obj)) (s:Β) (σ:St) (H:Hp) (xs:List V) (us:List Α) (Q:VK),Inv X pins σ H s->Yz xs us->r xs H Q ->
  Μ (Ξ X.prog X.w) X.A (call f us) (EP X pins σ Q) X.xe s
def lA (r:R2) (ta tb:TE):TE:=fun σ H Q=>ta σ H fun x H1=>tb σ H1 fun y H2=>r x y H2 Q
def yW (r:V->Hp->VK->Prop) (ta:TE):TE:=fun σ H Q=>ta σ H fun x H1=>r x H1 Q
def rI (C:Int->Int->Prop) (g:Int->Int->V):R2:=fun x y H Q=>kI x fun i=>kI y fun j=>C i j/\Q (g i j) H
def jO (g:Int->Int->V):R2:=fun x y H Q=>kI x fun i=>kI y fun j=>Q (g i j) H
def rU (g:Int->V):V->Hp->VK->Prop:=fun x H Q=>kI x fun i=>Q (g i) H
section
variable {X:Cx} {a b c:Expr} {ta tb tc:TE} {pos:Pos}
theorem ux (ha:PE X a ta) (hb:PE X b tb) {pins:List (Addr×Obj)} {s:Β} {σ:St} {H:Hp} {R:V->V->Hp->Prop} (I:Inv X pins σ H s)
  (h:ta σ H fun x H1=>tb σ H1 fun y H2=>R x y H2) {Q:Α->Β->Prop} {f:Α->Α->Sem Α}
  (hf:∀ v u s2 x y H2,Inv X pins σ H2 s2->YH x v->YH y u->R x y H2->Μ (Ξ X.prog X.w) X.A (f v u) Q X.xe s2) :
  Μ (Ξ X.prog X.w) X.A (eval a X.env) (fun v s₁=>Μ (Ξ X.prog X.w) X.A (eval b X.env) (fun u s₂=>Μ (Ξ X.prog X.w) X.A (f v u) Q X.xe s₂) X.xe s₁) X.xe s:=by
 refine aG (ha pins s σ H _ I h) fun v s1 ⟨x,H1,I1,r1,q1⟩=>?_
 refine aG (hb pins s1 σ H1 _ I1 q1) fun u s2 ⟨y,H2,I2,r2,q2⟩=>?_
 exact hf v u s2 x y H2 I2 r1 r2 q2
theorem Ys {op:Operator} {r:R2} (ho:cu X (gs op) r) (ha:PE X a ta) (hb:PE X b tb):PE X (.BinOp a op b pos) (lA r ta tb):=by
 intro pins s σ H Q I h;exact wpAny_BinOp (ux ha hb I h fun v u s2 x y H2 I2 rx ry q=>ho pins s2 σ H2 x y v u Q I2 rx ry q)
theorem W0 {op:UnaryOp} {r:V->Hp->VK->Prop} (ho:yV X (unaryOp op) r) (ha:PE X a ta):PE X (.UnaryOp op a pos) (yW r ta):=by
 intro pins s σ H Q I h;exact UnaryOp_ (aG (ha pins s σ H _ I h) fun v s1 ⟨x,H1,I1,r1,q1⟩=>ho pins s1 σ H1 x v Q I1 r1 q1)
theorem pD {f:Α->Α->Sem Α} {C:Int->Int->Prop} {g:Int->Int->Int}
  (rule:∀ (i j:Int) (t u:Tok) (s:Β) (Q:Α->Β->Prop) (E:Α->Β->Prop),C i j->Q (.int (g i j) s.toks) { s with toks:=s.toks+1 }->Μ (Ξ X.prog X.w) X.A (f (.int i t) (.int j u)) Q E s) :
  cu X f (rI C fun i j => .int (g i j)):=by
 intro pins s σ H x y v u Q I rx ry h
 replace h:=qZ h
 obtain ⟨i,j,rfl,rfl,hc,q⟩:=h;obtain ⟨t,rfl⟩:=rx;obtain ⟨t',rfl⟩:=ry;exact rule i j t t' s _ _ hc ⟨.int (g i j),H,I.tok _,⟨_,rfl⟩,q⟩
theorem yX {f:Α->Α->Sem Α} {g:Int->Int->Int}
  (rule:∀ (i j:Int) (t u:Tok) (s:Β) (Q:Α->Β->Prop) (E:Α->Β->Prop),Q (.int (g i j) s.toks) { s with toks:=s.toks+1 }->Μ (Ξ X.prog X.w) X.A (f (.int i t) (.int j u)) Q E s) :
  cu X f (jO fun i j => .int (g i j)):=by
 intro pins s σ H x y v u Q I rx ry h
 replace h:=qZ h
 obtain ⟨i,j,rfl,rfl,q⟩:=h;obtain ⟨t,rfl⟩:=rx;obtain ⟨t',rfl⟩:=ry;exact rule i j t t' s _ _ ⟨.int (g i j),H,I.tok _,⟨_,rfl⟩,q⟩
theorem uz {f:Α->Α->Sem Α} {g:Int->Int->Bool}
  (rule:∀ (i j:Int) (t u:Tok) (s:Β) (Q:Α->Β->Prop) (E:Α->Β->Prop),Q (.bool (g i j)) s->Μ (Ξ X.prog X.w) X.A (f (.int i t) (.int j u)) Q E s) :
  cu X f (jO fun i j => .bl (g i j)):=by
 intro pins s σ H x y v u Q I rx ry h
 replace h:=qZ h
 obtain ⟨i,j,rfl,rfl,q⟩:=h;obtain ⟨t,rfl⟩:=rx;obtain ⟨t',rfl⟩:=ry;exact rule i j t t' s _ _ ⟨.bl (g i j),H,I,rfl,q⟩
def uD (i j:Int):Prop:=0<=j/\j<=1000000/\i.natAbs<2^64
def uE (i j:Int):Prop:=(-(2^64)<i/\i<2^64)\/(-(2^64)<j/\j<2^64)
theorem uE.ok {i j:Int} (h:uE i j):IntMulOk i j:=by
 rcases h with ⟨h1,h2⟩ | ⟨h1,h2⟩
 ·exact .of_left (intBits_le_64 h1 h2)
 ·exact .of_right (intBits_le_64 h1 h2)
theorem T9 (k:Nat):(0:Int)<=2^k:=by
 rw [two_pow_cast];exact Int.natCast_nonneg _
theorem Xa:cu X (gs .Add) (jO fun i j => .int (i+j)):=yX fun _ _ _ _ _ _ _ q=>add_int q
theorem Wh:cu X (gs .Sub) (jO fun i j => .int (i - j)):=yX fun _ _ _ _ _ _ _ q=>sub_int q
theorem XI:cu X (gs .Mod) (rI (fun _ j=>0<j) fun i j => .int (i%j)):=pD fun i j _ _ _ _ _ hc q=>by
 have h1:(0:Int)<j:=hc;exact mod_int' (by omega) (by rw [Int.fmod_eq_emod_of_nonneg i (by omega)];exact q)
theorem Uy:cu X (gs .Pow) (rI uD fun i j => .int (i^j.toNat)):=pD fun _ _ _ _ _ _ _ hc q=>pow_int_small hc.1 hc.2.1 hc.2.2 q
theorem JH:cu X (gs .LShift) (rI uD fun i j => .int (i*2^j.toNat)):=pD fun _ _ _ _ _ _ _ hc q=>lshift_int_small hc.1 hc.2.1 hc.2.2 q
theorem YfV:cu X (gs .RShift) (rI (fun _ j=>0<=j) fun i j => .int (i / 2^j.toNat)):=pD fun i j _ _ _ _ _ hc q =>
 rshift_int hc (by rw [Int.fdiv_eq_ediv_of_nonneg i (T9 _)];exact q)
theorem unI {f:Α->Sem Α} {g:Int->Int}
  (rule:∀ (i:Int) (t:Tok) (s:Β) (Q:Α->Β->Prop) (E:Α->Β->Prop),Q (.int (g i) s.toks) { s with toks:=s.toks+1 }->Μ (Ξ X.prog X.w) X.A (f (.int i t)) Q E s) :
  yV X f (rU fun i => .int (g i)):=by
 intro pins s σ H x v Q I rx h;obtain ⟨i,rfl,q⟩:=UT.mp h;obtain ⟨t,rfl⟩:=rx;exact rule i t s _ _ ⟨.int (g i),H,I.tok _,⟨_,rfl⟩,q⟩
theorem WE:yV X (unaryOp .USub) (rU fun i => .int (-i)):=unI fun _ _ _ _ _ q=>neg_int q
end
def vd:V->V->Bool
 | .non,.non=>true | .non,.int _=>true | .int _,.non=>true | .non,.bl _=>true | .bl _,.non=>true | .non,.str _=>true | .str _,.non=>true
 | .int _,.int _=>true | .bl _,.bl _=>true | .str _,.str _=>true | .iZ _,.iZ _=>true
 | .int _,.str _=>true | .str _,.int _=>true | .bl _,.str _=>true | .str _,.bl _=>true
 | _,_=>false
def kEq (x y:V) (k:Bool->Prop):Prop:=match x,y with
 | .int i,.int j=>k (decide (i=j))
 | .str i,.str j=>k (decide (i=j))
 | x,y=>vd x y=true/\k (decide (x=y))
theorem JK (i j:Int) (k:Bool->Prop):kEq (.int i) (.int j) k=k (decide (i=j)):=rfl
theorem JL (i j:Str) (k:Bool->Prop):kEq (.str i) (.str j) k=k (decide (i=j)):=rfl
theorem yZ {x y:V} {k:Bool->Prop}:kEq x y k↔vd x y=true/\k (decide (x=y)):=by
 unfold kEq
 split
 ·rename_i i j
  rw [show decide (V.int i=V.int j)=decide (i=j) from by simp];exact ⟨fun h=>⟨rfl,h⟩,fun h=>h.2⟩
 ·rename_i i j
  rw [show decide (V.str i=V.str j)=decide (i=j) from by simp];exact ⟨fun h=>⟨rfl,h⟩,fun h=>h.2⟩
 ·exact Iff.rfl
def rz:R2:=fun x y H Q=>kEq x y fun b=>Q (.bl b) H
def za:R2:=fun x y H Q=>kEq x y fun b=>Q (.bl (!b)) H
theorem JM {i j:Int}:decide (V.int i=V.int j)=(i==j):=by
 rw [j0];simp
theorem JN {i j:Bool}:decide (V.bl i=V.bl j)=(i==j):=by
 rw [j0];simp
theorem JQ {i j:Str}:decide (V.str i=V.str j)=(i==j):=by
 rw [j0];simp
theorem JR {i j:Array UInt8}:decide (V.iZ i=V.iZ j)=(i.toList==j.toList):=by
 rw [j0]
 cases i
 cases j
 simp
section
variable {X:Cx} {a b c:Expr} {ta tb tc:TE} {pos:Pos}
theorem YU {pins:List (Addr×Obj)} {σ:St} {H:Hp} {s:Β} {Q:VK} {k k':Bool} (I:Inv X pins σ H s) (q:Q (.bl k) H) (e:k=k'):EP X pins σ Q (.bool k') s:=by
 subst e;exact ⟨.bl k,H,I,rfl,q⟩
theorem YQ:cu X (bj .Eq) rz:=by
 intro pins s σ H x y v u Q I rx ry h;obtain ⟨hs,q⟩:=yZ.mp h
 cases x with
 | non =>
  cases rx
  cases y with
  | non=>cases ry;exact PySem.EqNone.eq_none_none (YU I q (by simp))
  | bl j=>cases ry;exact PySem.EqNone.eq_none_bool (YU I q (by simp))
  | int j=>obtain ⟨t',rfl⟩:=ry;exact PySem.EqNone.eq_none_int (YU I q (by simp))
  | str j=>obtain ⟨t',rfl⟩:=ry;exact PySem.EqNone.eq_none_str (YU I q (by simp))
  | _=>exact absurd (show false=true from hs) θ
 | bl i =>
  cases rx
  cases y with
  | non=>cases ry;exact PySem.EqNone.eq_bool_none (YU I q (by simp))
  | bl j=>cases ry;exact eq_bool (YU I q JN)
  | str j=>obtain ⟨t',rfl⟩:=ry;exact PySem.EqMixed.eq_bool_str (YU I q (by simp))
  | _=>exact absurd (show false=true from hs) θ
 | int i =>
  obtain ⟨t,rfl⟩:=rx
  cases y with
  | non=>cases ry;exact PySem.EqNone.eq_int_none (YU I q (by simp))
  | int j=>obtain ⟨t',rfl⟩:=ry;exact eq_int (YU I q JM)
  | str j=>obtain ⟨t',rfl⟩:=ry;exact PySem.EqMixed.eq_int_str (YU I q (by simp))
  | _=>exact absurd (show false=true from hs) θ
 | str i =>
  obtain ⟨t,rfl⟩:=rx
  cases y with
  | non=>cases ry;exact PySem.EqNone.eq_str_none (YU I q (by simp))
  | bl j=>cases ry;exact PySem.EqMixed.eq_str_bool (YU I q (by simp))
  | int j=>obtain ⟨t',rfl⟩:=ry;exact PySem.EqMixed.eq_str_int (YU I q (by simp))
  | str j=>obtain ⟨t',rfl⟩:=ry;exact eq_str (YU I q JQ)
  | _=>exact absurd (show false=true from hs) θ
 | iZ i =>
  obtain ⟨t,rfl⟩:=rx
  cases y with
  | iZ j=>obtain ⟨t',rfl⟩:=ry;exact W.eq_bytes (YU I q JR)
  | _=>exact absurd (show false=true from hs) θ
 | _=>cases y<;>exact absurd (show false=true from hs) θ
theorem JT:cu X (bj .NotEq) za:=by
 intro pins s σ H x y v u Q I rx ry h;obtain ⟨hs,q⟩:=yZ.mp h
 cases x with
 | non =>
  cases rx
  cases y with
  | non=>cases ry;exact PySem.EqNone.ne_none_none (YU I q (by simp))
  | bl j=>cases ry;exact PySem.EqNone.ne_none_bool (YU I q (by simp))
  | int j=>obtain ⟨t',rfl⟩:=ry;exact PySem.EqNone.ne_none_int (YU I q (by simp))
  | str j=>obtain ⟨t',rfl⟩:=ry;exact PySem.EqNone.ne_none_str (YU I q (by simp))
  | _=>exact absurd (show false=true from hs) θ
 | bl i =>
  cases rx
  cases y with
  | non=>cases ry;exact PySem.EqNone.ne_bool_none (YU I q (by simp))
  | bl j=>cases ry;exact ne_bool (YU I q (congrArg not JN))
  | str j=>obtain ⟨t',rfl⟩:=ry;exact PySem.EqMixed.ne_bool_str (YU I q (by simp))
  | _=>exact absurd (show false=true from hs) θ
 | int i =>
  obtain ⟨t,rfl⟩:=rx
  cases y with
  | non=>cases ry;exact PySem.EqNone.ne_int_none (YU I q (by simp))
  | int j=>obtain ⟨t',rfl⟩:=ry;exact ne_int (YU I q (congrArg not JM))
  | str j=>obtain ⟨t',rfl⟩:=ry;exact PySem.EqMixed.ne_int_str (YU I q (by simp))
  | _=>exact absurd (show false=true from hs) θ
 | str i =>
  obtain ⟨t,rfl⟩:=rx
  cases y with
  | non=>cases ry;exact PySem.EqNone.ne_str_none (YU I q (by simp))
  | bl j=>cases ry;exact PySem.EqMixed.ne_str_bool (YU I q (by simp))
  | int j=>obtain ⟨t',rfl⟩:=ry;exact PySem.EqMixed.ne_str_int (YU I q (by simp))
  | str j=>obtain ⟨t',rfl⟩:=ry;exact ne_str (YU I q (congrArg not JQ))
  | _=>exact absurd (show false=true from hs) θ
 | iZ i =>
  obtain ⟨t,rfl⟩:=rx
  cases y with
  | iZ j=>obtain ⟨t',rfl⟩:=ry;exact W.ne_bytes (YU I q (congrArg not JR))
  | _=>exact absurd (show false=true from hs) θ
 | _=>cases y<;>exact absurd (show false=true from hs) θ
theorem Ih:cu X (bj .Lt) (jO fun i j => .bl (decide (i<j))):=uz fun _ _ _ _ _ _ _ q=>lt_int q
theorem W1:cu X (bj .LtE) (jO fun i j => .bl (decide (i<=j))):=uz fun _ _ _ _ _ _ _ q=>le_int q
theorem zf:cu X (bj .Gt) (jO fun i j => .bl (decide (j<i))):=uz fun _ _ _ _ _ _ _ q=>gt_int q
theorem VN:cu X (bj .Is) (fun x y H Q=>y = .non/\Q (.bl (decide (x = .non))) H):=by
 intro pins s σ H x y v u Q I rx ry h;obtain ⟨rfl,q⟩:=h
 cases ry
 refine is_none_gen (YU I q ?_)
 cases x<;>first
  | (cases rx;rfl)
  | (obtain ⟨t,rfl⟩:=rx;rfl)
theorem V0:cu X (bj .IsNot) (fun x y H Q=>y = .non/\Q (.bl (!decide (x = .non))) H):=by
 intro pins s σ H x y v u Q I rx ry h;obtain ⟨rfl,q⟩:=h
 cases ry
 refine isnot_none_gen (YU I q ?_)
 cases x<;>first
  | (cases rx;rfl)
  | (obtain ⟨t,rfl⟩:=rx;rfl)
theorem Yq (b:Expr) {op:CmpOp} (h:op ≠ .In:=by decide) (h2:op ≠ .NotIn:=by decide):kD op b=false:=by
 have e1:(op==CmpOp.In)=false:=by cases op<;>first | rfl | exact absurd rfl h
 have e2:(op==CmpOp.NotIn)=false:=by cases op<;>first | rfl | exact absurd rfl h2
 cases b<;>simp [kD,e1,e2]
theorem Xn {op:CmpOp} {r:R2} (ho:cu X (bj op) r) (ha:PE X a ta) (hb:PE X b tb) (hm:kD op b=false):PE X (.Compare a [op] [b] pos) (lA r ta tb):=by
 intro pins s σ H Q I h;exact wpAny_Compare1 (ux ha hb I h fun v u s2 x y H2 I2 rx ry q=>ho pins s2 σ H2 x y v u Q I2 rx ry q) hm
def V1 (t:TE):TT:=fun σ H Q=>t σ H fun x H'=>kB x fun k=>Q k H'
theorem Yt {op:CmpOp} {r:R2} (ho:cu X (bj op) r) (ha:PE X a ta) (hb:PE X b tb) (hm:kD op b=false):PT X (.Compare a [op] [b] pos) (V1 (lA r ta tb)):=by
 intro pins s σ H Q I h;refine wpAny_isTrue_Compare1 (aG (ha pins s σ H _ I h) fun v s1 ⟨x,H1,I1,r1,q1⟩=>aG (hb pins s1 σ H1 _ I1 q1) fun u s2 ⟨y,H2,I2,r2,q2⟩ =>
  aG (ho pins s2 σ H2 x y v u _ I2 r1 r2 q2) fun c s3 ⟨z,H3,I3,r3,q3⟩=>?_) hm
 replace q3:=VI.mp q3
 obtain ⟨k,e,q3⟩:=q3;subst e
 cases r3
 exact dA ⟨H3,I3,q3⟩
def Uz (r r':R2) (ta tb tc:TE):TE:=fun σ H Q=>ta σ H fun x H1=>tb σ H1 fun y H2=>r x y H2 fun z H3=>kB z fun k =>
 (if k=true then tc σ H3 fun w' H4=>r' y w' H4 Q else Q (.bl false) H3)
theorem QY {op op':CmpOp} {r r':R2} (ho:cu X (bj op) r) (ho':cu X (bj op') r') (ha:PE X a ta) (hb:PE X b tb) (hc:PE X c tc)
  (hm:lastMarks [op,op'] [b,c]=false):PE X (.Compare a [op,op'] [b,c] pos) (Uz r r' ta tb tc):=by
 intro pins s σ H Q I h;refine Compare_chain (aG (ha pins s σ H _ I h) fun v s1 ⟨x,H1,I1,r1,q1⟩=>chain_link (aG (hb pins s1 σ H1 _ I1 q1) fun u s2 ⟨y,H2,I2,r2,q2⟩ =>
  aG (ho pins s2 σ H2 x y v u _ I2 r1 r2 q2) fun d s3 ⟨z,H3,I3,r3,q3⟩=>?_)) hm
 replace q3:=VI.mp q3
 obtain ⟨k,e,q3⟩:=q3;subst e
 cases r3
 refine dA ?_
 cases k with
 | false=>exact ite_ff ⟨.bl false,H3,I3,rfl,q3⟩
 | true=>exact ite_tt (chain_last (aG (hc pins s3 σ H3 _ I3 q3) fun w' s4 ⟨z',H4,I4,r4,q4⟩=>ho' pins s4 σ H4 y z' u w' Q I4 r2 r4 q4))
theorem YdC {op op':CmpOp} {r r':R2} (ho:cu X (bj op) r) (ho':cu X (bj op') r') (ha:PE X a ta) (hb:PE X b tb) (hc:PE X c tc)
  (hm:lastMarks [op,op'] [b,c]=false):PT X (.Compare a [op,op'] [b,c] pos) (V1 (Uz r r' ta tb tc)):=by
 intro pins s σ H Q I h;refine isTrue_chain (aG (ha pins s σ H _ I h) fun v s1 ⟨x,H1,I1,r1,q1⟩=>test_link (aG (hb pins s1 σ H1 _ I1 q1) fun u s2 ⟨y,H2,I2,r2,q2⟩ =>
  aG (ho pins s2 σ H2 x y v u _ I2 r1 r2 q2) fun d s3 ⟨z,H3,I3,r3,q3⟩=>?_)) hm
 replace q3:=VI.mp q3
 obtain ⟨k,e,q3⟩:=q3;subst e
 cases r3
 refine dA ?_
 cases k with
 | false =>
  exact ite_ff ⟨H3,I3,q3⟩
 | true =>
  refine ite_tt (test_last (aG (hc pins s3 σ H3 _ I3 q3) fun w' s4 ⟨z',H4,I4,r4,q4⟩=>aG (ho' pins s4 σ H4 y z' u w' _ I4 r2 r4 q4) fun d' s5 ⟨z2,H5,I5,r5,q5⟩=>?_))
  replace q5:=VI.mp q5
  obtain ⟨k2,e2,q5⟩:=q5;subst e2
  cases r5
  exact dA ⟨H5,I5,q5⟩
theorem QZ:(sizeLine:Nat)<2^63:=by rw [kn];decide
theorem WK {x:V} {us:List Α} (r:Yz [x] us):∃ u,us=[u]/\YH x u:=by
 cases r with
 | cons r1 r2=>cases r2;exact ⟨_,rfl,r1⟩
theorem UA {x y:V} {us:List Α} (r:Yz [x,y] us):∃ u w',us=[u,w']/\YH x u/\YH y w':=by
 cases r with
 | cons r1 r2 =>
  cases r2 with
  | cons r3 r4=>cases r4;exact ⟨_,_,rfl,r1,r3⟩
def zj:List V->Hp->VK->Prop:=fun xs H Q=>k2 xs fun x y=>kI x fun i=>kI y fun j=>Q (.int (if j>i then j else i)) H
theorem Ycy (hc:X.calm=true):XC X (.builtin "max") (zj):=by
 intro pins s σ H xs us Q I r h;obtain ⟨x,y,rfl,h1⟩:=uh h;obtain ⟨i,j,rfl,rfl,q⟩:=qZ h1;obtain ⟨u,w',rfl,⟨t,rfl⟩,⟨t',rfl⟩⟩:=UA r;refine max_two_ints (I.ok.hd hc) fun h' tk k=>⟨_,H,I.kept k,?_,q⟩
 by_cases hj:j>i
 ·rw [if_pos hj,if_pos hj];exact ⟨_,rfl⟩
 ·rw [if_neg hj,if_neg hj];exact ⟨_,rfl⟩
def zm:List V->Hp->VK->Prop:=fun xs H Q=>k2 xs fun x y=>kI x fun i=>kI y fun j=>Q (.int (if j<i then j else i)) H
theorem Ycz (hc:X.calm=true):XC X (.builtin "min") (zm):=by
 intro pins s σ H xs us Q I r h;obtain ⟨x,y,rfl,h1⟩:=uh h;obtain ⟨i,j,rfl,rfl,q⟩:=qZ h1;obtain ⟨u,w',rfl,⟨t,rfl⟩,⟨t',rfl⟩⟩:=UA r;refine min_two_ints (I.ok.hd hc) fun h' tk k=>⟨_,H,I.kept k,?_,q⟩
 by_cases hj:j<i
 ·rw [if_pos hj,if_pos hj];exact ⟨_,rfl⟩
 ·rw [if_neg hj,if_neg hj];exact ⟨_,rfl⟩
theorem YcA:XC X (.type "int") (fun xs H Q=>(∃ i,xs=[.int i]/\Q (.int i) H)\/∃ k,xs=[.bl k]/\Q (.int (if k then 1 else 0)) H):=by
 intro pins s σ H xs us Q I r h;rcases h with ⟨i,rfl,q⟩ | ⟨k,rfl,q⟩
 ·obtain ⟨u,rfl,t,rfl⟩:=WK r
  exact call_int_int ⟨.int i,H,I,⟨_,rfl⟩,q⟩
 ·obtain ⟨u,rfl,r1⟩:=WK r
  cases r1
  exact call_int_bool ⟨.int (if k then 1 else 0),H,I.tok _,⟨_,rfl⟩,q⟩
theorem Q0:XC X (.type "str") (fun xs H Q=>∃ i,xs=[.int i]/\i.natAbs.log2<1920/\Q (.str (toString i)) H):=by
 intro pins s σ H xs us Q I r h;obtain ⟨i,rfl,hz,q⟩:=h;obtain ⟨u,rfl,t,rfl⟩:=WK r;exact PySem.P.str_of_int hz ⟨.str _,H,I.tok _,⟨_,rfl⟩,q⟩
end
structure jM (h:Heap) (x dx C:Addr) (mA:Str->Option Α):Prop where
 obj:h.get? x=some (im C dx)
 ns:h.Ns1 dx mA
 ne:dx≠x
theorem YcB {h:Heap} {dx:Addr} {mA:Str->Option Α} (n:h.Ns1 dx mA):∃ od,h.get? dx=some od/\∀ name,W.lookIn name od=some (mA name):=by
 obtain ⟨o,es,ep,ho,hd,hk,_,hm⟩:=n;refine ⟨o,ho,fun name=>?_⟩;have e:=hm name;unfold nsFind findBy at e;rw [<- Array.find?_toList] at e
 unfold W.lookIn;rw [hd];dsimp only
 split
 ·rename_i y q
  rw [q] at e
  exact congrArg some e
 ·rename_i q
  rw [q] at e
  have a:es.toList.any (·.refKey)=false:=by
   rw [List.any_eq_false];intro y hy;obtain ⟨z,t,hkey⟩:=hk y (Array.mem_toList_iff.mp hy);simp [DictEntry.refKey,hkey]
  have a':¬ es.toList.any (·.refKey)=true:=by rw [a];exact θ
  rw [if_neg a'];exact congrArg some e
theorem jM.look {h:Heap} {x dx C:Addr} {mA:Str->Option Α} (I:jM h x dx C mA):∃ od,W.InstAt h x (im C dx) C (some od)/\∀ name,W.lookIn name od=some (mA name) :=
 let ⟨od,ho,hl⟩:=YcB I.ns
 ⟨od,⟨I.obj,rfl,rfl,ho⟩,hl⟩
section
variable {prog:Ρ} {w:Ω} {A:η} {E:Α->Β->Prop} {s:Β} {K:Ι} {x dx C f:Addr} {mA:Str->Option Α} {name:Str} {v:Α}
theorem Ye9 {expr:Bool} {Q:Α->Β->Prop} (X:K.In s.heap) (I:jM s.heap x dx C mA) (hg:W.plainGet K C name=true) (hh:kq K C=true)
  (ha:bS K (.ref C) name=some none) (hv:mA name=some v) (hv':W.handedIn v=true) (h:Q v { s with toks:=s.toks+1 }) :
  Μ (Ξ prog w) A (getAttr (.ref x) name expr) Q E s:=by
 obtain ⟨od,J,hl⟩:=I.look;exact W.get_value X J (W.plainGet_of hg).1 (W.findObj_own hh ha rfl (by rw [hl,hv])) hv' h
theorem YdD {pl:Sem Bool} {Q:Α×List Α->Β->Prop} (X:K.In s.heap) (I:jM s.heap x dx C mA) (hg:W.plainGet K C name=true)
  (hf:bS K (.ref C) name=some (some (.ref f))) (ht:W.isFn K (.ref f)=true) (hv:mA name=none) (h:Q (.ref f,[.ref x]) s) :
  Μ (Ξ prog w) A (i9 (.ref x) name pl) Q E s:=by
 obtain ⟨od,J,hl⟩:=I.look;exact W.method_fn X J (W.plainGet_of hg).1 (W.plainGet_of hg).2 hf (beq_iff_eq.mp ht) (by show (W.lookIn name od).map (·.isSome)=some false;rw [hl,hv];rfl) h
theorem Yfa {ns:List Str} {Q:Unit->Β->Prop} (X:K.In s.heap) (I:jM s.heap x dx C mA)
  (hs:bS K (.ref C) "__setattr__"=some (some (.builtin "object.__setattr__"))) (hp:W.plainOver K C=true) (ht:W.takerIn K C name=some none) (hh:kq K C=true)
  (hw:io mA ns) (hsz:ns.length<=sizeLine)
  (h:∀ h',jM h' x dx C (fun y=>if y=name then some v else mA y)->cy dx s.heap h'->Q () { s with heap:=h',toks:=s.toks+2 }) :
  Μ (Ξ prog w) A (setAttr (.ref x) name v) Q E s:=by
 obtain ⟨od,J,hl⟩:=I.look;refine W.set_plain X J hs (W.osa_open (s:={ s with toks:=s.toks+1 }) (r:=none) X J hp ht fun b=>?_);obtain ⟨cd,hc,hd'⟩:=W.any_some hh;have hx:s.heap.get? x=some ⟨.ref C,some dx,.plain,#[]⟩:=I.obj;refine Δ (Ο (Δ (Δ (ke hx (Δ (W.Looks.here (s:={ s with toks:=s.toks+1 }) (W.looks_clsIn X hc) ?_))))));rw [hd'];refine Ο (a:=some dx) (Δ (Ο (Δ ?_)));refine wpAny_nsSet1 (s:={ s with toks:=s.toks+1 }) I.ns fun h' hn2 hs2=>?_
 obtain ⟨oD,esD,epD,hoD,hdD,hcD⟩:=hn2.count (PySem.Within.cons name v hw);refine Δ (wpAny_lookBehind hoD (by rw [hdD];exact pastItsLine_dict (ap hcD (by rw [ai];omega))) ?_);exact Ο (h _ ⟨(hs2.2 _ (ψ I.ne)).trans I.obj,hn2,I.ne⟩ hs2)
theorem YdE {R:Result->Β->Prop} {vs:List Α} {kw:List (Str×Α)} (X:K.In s.heap) (hm:W.makesIn K C=true)
  (hi:bS K (.ref C) "__init__"=some (some (.ref f))) (hf:W.typeIn K (.ref f)=some (.type "function"))
  (h:ei (Ξ prog w) (A.under (.builtin "type.__call__" ⟨.ref C::vs,kw⟩)) (.call (.ref f) ⟨.ref (s.heap.objs.size+1)::vs,kw⟩) (W.InitBack (s.heap.objs.size+1) R)
   { s with heap:=(s.heap.push fq).push (im C s.heap.objs.size) }) :
  ei (Ξ prog w) A (.call (.ref C) ⟨vs,kw⟩) R s:=by
 obtain ⟨hh,g,d,t,os⟩:=s;exact W.make_core (W.makes_of X hm) (W.looks_findIn X hi) (fun self=>W.bind_fn X self hf) (.inl rfl) h
end
def Y5 (f:Str) (v:V):List (Str×V)->List (Str×V)
 | []=>[(f,v)]
 | (g,x)::r=>if g=f then (g,v)::r else (g,x)::Y5 f v r
theorem Va (f g:Str) (v:V):∀ fs:List (Str×V),(Y5 f v fs).lookup g=if g=f then some v else fs.lookup g
 | []=>by
  show bn g [(f,v)]=_
  by_cases h:g=f
  ·have hb:(g==f)=true:=beq_iff_eq.mpr h
   simp only [bn,hb,if_pos h]
  ·have hb:(g==f)=false:=beq_eq_false_iff_ne.mpr h
   simp only [bn,hb,if_neg h]
 | (k,x)::r=>by
  have ih:=Va f g v r;rw [show Y5 f v ((k,x)::r)=(if k=f then (k,v)::r else (k,x)::Y5 f v r) from rfl];by_cases hk:k=f
  ·rw [if_pos hk]
   by_cases h:g=k
   ·have hb:(g==k)=true:=beq_iff_eq.mpr h
    simp only [bn,hb,if_pos (h.trans hk)]
   ·have hb:(g==k)=false:=beq_eq_false_iff_ne.mpr h
    simp only [bn,hb,if_neg (fun e:g=f=>h (e.trans hk.symm))]
  ·rw [if_neg hk]
   by_cases h:g=k
   ·have hb:(g==k)=true:=beq_iff_eq.mpr h
    simp only [bn,hb,if_neg (fun e:g=f=>hk (h.symm.trans e))]
   ·have hb:(g==k)=false:=beq_eq_false_iff_ne.mpr h
    simp only [bn,hb];exact ih
theorem WF (f:Str) (v:V):∀ fs:List (Str×V),f∈(Y5 f v fs).map (·.1)/\∀ g,g∈fs.map (·.1)->g∈(Y5 f v fs).map (·.1)
 | []=>⟨by simp [Y5],fun g h=>by simp at h⟩
 | (k,x)::r=>by
  obtain ⟨i1,i2⟩:=WF f v r;rw [show Y5 f v ((k,x)::r)=(if k=f then (k,v)::r else (k,x)::Y5 f v r) from rfl];by_cases hk:k=f
  ·rw [if_pos hk]
   subst hk;exact ⟨by simp,fun g h=>by simpa using h⟩
  ·rw [if_neg hk]
   refine ⟨?_,fun g h=>?_⟩
   ·rw [aS]
    exact bb _ i1
   ·rw [aS] at h ⊢
    rcases Ψ.mp h with e | e
    ·exact Ψ.mpr (.inl e)
    ·exact bb _ (i2 g e)
theorem Vb (f:Str) (v:V):∀ fs:List (Str×V),(Y5 f v fs).length<=fs.length+1
 | []=>by simp [Y5]
 | (k,x)::r=>by
  have ih:=Vb f v r;rw [show Y5 f v ((k,x)::r)=(if k=f then (k,v)::r else (k,x)::Y5 f v r) from rfl];by_cases hk:k=f
  ·rw [if_pos hk,ai,ai];omega
  ·rw [if_neg hk,ai,ai];omega
theorem Wc.some_of {v:V} {o:Option Α} (r:Wc (some v) o):∃ u,o=some u/\YH v u:=by
 cases o with
 | none=>exact (show False from r).elim
 | some u=>exact ⟨u,rfl,r⟩
theorem Wc.none_of {o:Option Α} (r:Wc none o):o=none:=by
 cases o with
 | none=>rfl
 | some u=>exact (show False from r).elim
theorem Qj {v:V} {u:Α} (r:YH v u):W.handedIn u=true:=by
 cases v with
 | non=>cases (show u=ck from r);rfl
 | bl b=>cases (show u=lj b from r);rfl
 | int i=>obtain ⟨t,e⟩:=(show ∃ t,u=k9 i t from r);cases e;rfl
 | str x=>obtain ⟨t,e⟩:=(show ∃ t,u=k7 x t from r);cases e;rfl
 | iZ b=>obtain ⟨t,e⟩:=(show ∃ t,u=Value.bytes b t from r);cases e;rfl
 | flt b=>obtain ⟨t,e⟩:=(show ∃ t,u=Value.float b t from r);cases e;rfl
 | ref a=>cases (show u=ζ a from r);rfl
 | ty n=>cases (show u=fc n from r);rfl
section
variable {P:Ρ} {w:Ω} {H H':Hp} {h h':Heap} {a C dx:Addr} {fs fs':List (Str×V)}
theorem V2 (hok:bD P w H h) (e:H a=some (.ins C dx fs)):∃ mA,jM h a dx C mA/\(∀ f,Wc (fs.lookup f) (mA f))/\io mA (fs.map (·.1))/\fs.length<=1000/\H dx=some (.own a):=by
 obtain ⟨d,z,ne,ob,mA,n,r,q⟩:=(show YO P w H h a (.ins C dx fs) from hok a _ e);exact ⟨mA,⟨ob,n,ne⟩,r,q,z,d⟩
end
structure Cls (K:Ι) (C:Addr):Prop where
 pg:W.plainGet K C Str.empty=true
 hd:kq K C=true
 po:W.plainOver K C=true
 sa:bS K (.ref C) "__setattr__"=some (some (.builtin "object.__setattr__"))
theorem Cls.get {K:Ι} {C:Addr} (c:Cls K C) (f:Str):W.plainGet K C f=true:=c.pg
def Yo (K:Ι) (C:Addr) (f:Str):Prop:=bS K (.ref C) f=some none
theorem Yo.taker {K:Ι} {C:Addr} {f:Str} (n:Yo K C f):W.takerIn K C f=some none:=by
 unfold W.takerIn;rw [show bS K (.ref C) f=some none from n];rfl
structure Meth (K:Ι) (C:Addr) (m:Str) (f:Addr):Prop where
 at_:bS K (.ref C) m=some (some (.ref f))
 fn:W.isFn K (.ref f)=true
 kp:dP K (.ref f)=true
section
variable {X:Cx} {pins:List (Addr×Obj)} {σ:St} {H:Hp} {s:Β} {a C dx:Addr} {fs:List (Str×V)} {f:Str} {v:V} {A:η} {E:Α->Β->Prop}
theorem YbA {b:Bool} {Q:Α->Β->Prop} (I:Inv X pins σ H s) (e:H a=some (.ins C dx fs)) (c:Cls X.K C) (n:Yo X.K C f) (l:fs.lookup f=some v)
  (h:∀ u s',Inv X pins σ H s'->YH v u->Q u s'):Μ (Ξ X.prog X.w) A (getAttr (.ref a) f b) Q E s:=by
 obtain ⟨mA,O,r,_,_,_⟩:=V2 I.hok e;obtain ⟨u,hu,ru⟩:=Wc.some_of (v:=v) (o:=mA f) (by rw [<- l];exact r f);exact Ye9 I.bf O (c.get f) c.hd n hu (Qj ru) (h u _ (I.tok _) ru)
theorem UB {m:Str} {g:Addr} {pl:Sem Bool} {Q:Α×List Α->Β->Prop} (I:Inv X pins σ H s) (e:H a=some (.ins C dx fs)) (c:Cls X.K C) (k:Meth X.K C m g) (l:fs.lookup m=none)
  (h:Q (.ref g,[.ref a]) s):Μ (Ξ X.prog X.w) A (i9 (.ref a) m pl) Q E s:=by
 obtain ⟨mA,O,r,_,_,_⟩:=V2 I.hok e;have hn:mA m=none:=Wc.none_of (by rw [<- l];exact r m);exact YdD I.bf O (c.get m) k.at_ k.fn hn h
theorem YbB {y:V} {u:Α} {Q:Unit->Β->Prop} (I:Inv X pins σ H s) (e:H a=some (.ins C dx fs)) (c:Cls X.K C) (n:Yo X.K C f) (hl:fs.length<1000) (ry:YH y u)
  (h:∀ s',Inv X pins σ (upd H a (.ins C dx (Y5 f y fs))) s'->Q () s'):Μ (Ξ X.prog X.w) A (setAttr (.ref a) f u) Q E s:=by
 obtain ⟨mA,O,r,wi,_,ho⟩:=V2 I.hok e;have hz:(fs.map (·.1)).length<=sizeLine:=by rw [Θ,kn];omega
 refine Yfa I.bf O c.sa c.po n.taker c.hd wi hz fun h' O' sb=>h _ ?_
 have hd:∃ o,h'.get? dx=some o:=let ⟨o,_,_,e',_⟩:=O'.ns;⟨o,e'⟩
 refine I.write (x:=a) (e:=dx) (by rw [e];exact dv) (.inr ho) (fun b q hb z=>(sb.2 b hb).trans z) hd ?_;refine ⟨by rw [Ye O.ne];exact ho,?_,O.ne,O'.obj,_,O'.ns,fun g=>?_,fun g hg=>?_⟩
 ·have:=Vb f y fs;omega
 ·show Wc ((Y5 f y fs).lookup g) (if g=f then some u else mA g)
  rw [Va];by_cases q:g=f
  ·rw [if_pos q,if_pos q];exact ry
  ·rw [if_neg q,if_neg q];exact r g
 ·by_cases q:g=f
  ·rw [q];exact (WF f y fs).1
  ·refine (WF f y fs).2 g (wi g fun z=>hg ?_)
   show (if g=f then some u else mA g)=none
   rw [if_neg q];exact z
theorem Inv.made (I:Inv X pins σ H s):Inv X pins σ (upd (upd H s.heap.objs.size (.own (s.heap.objs.size+1))) (s.heap.objs.size+1) (.ins C s.heap.objs.size []))
  { s with heap:=(s.heap.push fq).push (im C s.heap.objs.size) }:=by
 have e1:(s.heap.push fq).get? s.heap.objs.size=some W.emptyDict:=δ s.heap rfl;have e2:((s.heap.push fq).push (im C s.heap.objs.size)).get? (s.heap.objs.size+1)=some (im C s.heap.objs.size):=by
  have:=δ (s.heap.push fq) (o:=im C s.heap.objs.size) rfl
  rwa [dQ] at this
 have e3:(s.heap.push fq).Ns s.heap.objs.size (fun _=>none):=⟨fq,#[],_,e1,rfl,(fun e he=>absurd he (by simp)),fun _=>rfl⟩;have I1:=I.laid (a:=s.heap.objs.size) (o := .own (s.heap.objs.size+1)) (h':=s.heap.push fq) (t':=s.toks) (fun b u q=>Ζ _ q) (Ν _) ⟨_,e1⟩;refine I1.laid (a:=s.heap.objs.size+1) (o := .ins C s.heap.objs.size []) (t':=s.toks) (fun b u q=>Ζ _ q) (Nat.le_of_eq (dQ _ _)) ?_;have ne:s.heap.objs.size≠s.heap.objs.size+1:=ρ (Nat.lt_succ_self _);refine ⟨by rw [Ye ne,Yb],ar _,ne,e2,fun _=>none,(Heap.Ns1.of_empty e3).at fun o q=>Ζ _ q,fun _=>dv,fun y hy=>absurd rfl hy⟩
theorem JV {prog:Ρ} {w:Ω} {env:Env} {e:Expr} {f:Str} {pos:Pos} {s:Β} {Q:Α->Β->Prop} (hb:i6 e f env (eval e env)=eval e env)
  (h:Μ (Ξ prog w) A (eval e env) (fun o s₁=>Μ (Ξ prog w) A (getAttr o f true) Q E s₁) E s):Μ (Ξ prog w) A (eval (.Attribute e f pos) env) Q E s :=
 Attribute_any_ h (by rw [arm_eval_Attribute,hb])
end
inductive Rz (K:Ι) (H:Hp) (a:Addr) (f:Str) (Q:V->Prop):Prop
 | mk (C dx:Addr) (fs:List (Str×V)) (h:H a=some (.ins C dx fs)) (c:Cls K C) (n:Yo K C f) (v:V) (l:fs.lookup f=some v) (q:Q v)
inductive RB (K:Ι) (H:Hp) (a:Addr) (f:Str) (Q:Addr->Addr->List (Str×V)->Prop):Prop
 | mk (C dx:Addr) (fs:List (Str×V)) (h:H a=some (.ins C dx fs)) (c:Cls K C) (n:Yo K C f) (l:fs.length<1000) (q:Q C dx fs)
def uF (K:Ι) (ta:TE) (f:Str):TE:=fun σ H Q=>ta σ H fun x H1=>kR x fun a=>Rz K H1 a f fun v=>Q v H1
def uG (K:Ι) (ta tv:TE) (f:Str):TS:=fun D σ H=>tv σ H fun y H1=>ta σ H1 fun x H2=>kR x fun a=>RB K H2 a f fun C dx fs=>D.nx σ (upd H2 a (.ins C dx (Y5 f y fs)))
section
variable {X:Cx} {o e value:Expr} {f:Str} {pos pos' tpos:Pos} {ta tv:TE}
theorem Y4 (he:PE X e ta) (hb:i6 e f X.env (eval e X.env)=eval e X.env):PE X (.Attribute e f pos) (uF X.K ta f):=by
 intro pins s σ H Q I h;refine JV hb (aG (he pins s σ H _ I h) fun u s1 ⟨x,H1,I1,rx,q⟩=>?_)
 replace q:=WQ.mp q
 obtain ⟨a,ex,C,dx,fs,ea,c,n,v,l,q⟩:=q;subst ex;obtain rfl:u=ζ a:=rx;exact YbA I1 ea c n l fun u' s2 I2 ru=>⟨v,H1,I2,ru,q⟩
theorem XR (ha:PE X o ta) (hv:PE X value tv) (hs:kr value (some (.Attribute o f pos')) pos.line X.env=pure false):PS X (.Assign [.Attribute o f pos'] value pos) (uG X.K ta tv f):=by
 intro pins s σ H D I h;refine plainObj_wpAny_Assign_Attribute (aG (hv pins s σ H _ I h) fun u s1 ⟨y,H1,I1,ry,q⟩=>aG (ha pins s1 σ H1 _ I1 q) fun ov s2 ⟨x,H2,I2,rx,q2⟩=>?_) hs
 replace q2:=WQ.mp q2
 obtain ⟨a,ex,C,dx,fs,ea,c,n,l,q2⟩:=q2;subst ex;obtain rfl:ov=ζ a:=rx;exact YbB I2 ea c n l ry fun s3 I3=>⟨σ,_,I3,q2⟩
end
section
variable {X:Cx} {pins:List (Addr×Obj)} {σ:St} {H:Hp} {s:Β} {A:η} {E:Α->Β->Prop} {Q:Α->Β->Prop} {c:Α} {b:Bool}
inductive d7 (K:Ι) (H:Hp):V->Α->Prop where
 | non:d7 K H .non (.type "NoneType")
 | bl (x:Bool):d7 K H (.bl x) (.type "bool")
 | int (i:Int):d7 K H (.int i) (.type "int")
 | str (x:Str):d7 K H (.str x) (.type "str")
 | flt (x:UInt64):d7 K H (.flt x) (.type "float")
 | lst {a:Addr} {xs:List V} (e:H a=some (.lst xs)):d7 K H (.ref a) (.type "list")
 | cM {a:Addr} {o:Obj} {xs:List V} (e:H a=some (.cM o (.lst xs))):d7 K H (.ref a) (.type "list")
 | tup {a:Addr} {xs:List V} (e:H a=some (.tup xs)):d7 K H (.ref a) (.type "tuple")
 | dK {a:Addr} {kvs:List (Key×V)} (e:H a=some (.dK kvs)):d7 K H (.ref a) (.type "dict")
 | dT {a:Addr} {kvs:List (List Key×V)} (e:H a=some (.dT kvs)):d7 K H (.ref a) (.type "dict")
 | ins {a C dx:Addr} {fs:List (Str×V)} (e:H a=some (.ins C dx fs)) (cl:Cls K C) (ha:bS K (.ref C) "__class__"=some (some (.builtin "object.__class__")))
   (hn:la K (.builtin "object.__class__") "__get__"=some (some (.builtin "getset_descriptor.__get__"))) (htk:W.takesIn K (.builtin "object.__class__")=some true)
   (hm:W.mroIn K C (.type "object")=some true):d7 K H (.ref a) (.ref C)
theorem YcC {x:V} {u t:Α} (I:Inv X pins σ H s) (rx:YH x u) (ty:d7 X.K H x t) (e:γ X.K t c=some b) (h:∀ tk,Q (.bool b) { s with toks:=tk }) :
  Μ (Ξ X.prog X.w) A (call (.builtin "isinstance") [u,c]) Q E s:=by
 cases ty with
 | non=>cases (show u=ck from rx);exact d5 W.kitx_none I.bf dv e (fun z=>nomatch z) h
 | bl y=>cases (show u=lj y from rx);exact d5 W.kitx_bool I.bf dv e (fun z=>nomatch z) h
 | int i=>obtain ⟨t,q⟩:=(show ∃ t,u=k9 i t from rx);cases q;exact d5 W.kitx_int I.bf dv e (fun z=>nomatch z) h
 | str y=>obtain ⟨t,q⟩:=(show ∃ t,u=k7 y t from rx);cases q;exact d5 W.kitx_str I.bf dv e (fun z=>nomatch z) h
 | flt y=>obtain ⟨t,q⟩:=(show ∃ t,u=Value.float y t from rx);cases q;exact d5 W.kitx_float I.bf dv e (fun z=>nomatch z) h
 | @lst a xs ea =>
  cases (show u=ζ a from rx)
  obtain ⟨_,_,n,_,h1⟩:=(show YO X.prog X.w H s.heap a (.lst xs) from I.hok a _ ea);exact d5 W.kitx_list I.bf ⟨_,h1,rfl⟩ e (fun z=>nomatch z) h
 | @cM a ob xs ea =>
  cases (show u=ζ a from rx)
  obtain ⟨_,_,_,n,_,h1⟩:=(show YO X.prog X.w H s.heap a (.cM ob (.lst xs)) from I.hok a _ ea);exact d5 W.kitx_list I.bf ⟨_,h1,rfl⟩ e (fun z=>nomatch z) h
 | @tup a xs ea =>
  cases (show u=ζ a from rx)
  obtain ⟨_,_,_,p⟩:=(show YO X.prog X.w H s.heap a (.tup xs) from I.hok a _ ea);obtain ⟨o,h1,h2,_⟩:=p;exact d5 W.kitx_tuple I.bf ⟨o,h1,h2⟩ e (fun z=>nomatch z) h
 | @dK a kvs ea =>
  cases (show u=ζ a from rx)
  obtain ⟨_,_,vs,_,p⟩:=(show YO X.prog X.w H s.heap a (.dK kvs) from I.hok a _ ea);obtain ⟨o,es,ep,h1,h2,_⟩:=p;exact d5 W.kitx_dict I.bf ⟨o,h1,h2.1⟩ e (fun z=>nomatch z) h
 | @dT a kvs ea =>
  cases (show u=ζ a from rx)
  obtain ⟨_,_,xs,_,o,es,ep,h1,h2,_⟩:=(show YO X.prog X.w H s.heap a (.dT kvs) from I.hok a _ ea);exact d5 W.kitx_dict I.bf ⟨o,h1,h2.1⟩ e (fun z=>nomatch z) h
 | @ins a C dx fs ea cl ha hn htk hm =>
  cases (show u=ζ a from rx)
  obtain ⟨mA,O,_⟩:=V2 I.hok ea;obtain ⟨od,J,_⟩:=O.look;exact d5 (W.kitx_own (cl.get _) cl.hd ha hn htk hm) I.bf J e (fun z=>nomatch z) h
end
structure aO (k:Nat) (A:η):Prop where
 hd:A.handled=none
 dp:A.depth+3*k+5<recursionLimit
 un:A.units+16*k+200<fw
 gd:A.guards=some []
theorem aO.mono {j k:Nat} {A:η} (r:aO k A) (h:j<=k):aO j A:=⟨r.hd,by have:=r.dp;omega,by have:=r.un;omega,r.gd⟩
theorem aO.deeper {k:Nat} {A:η} (r:aO (k+1) A) (env:Env):aO k (A.deeper env) :=
 ⟨r.hd,by have:=r.dp;show A.depth+1+3*k+5<_;omega,by have:=r.un;show A.units+3+16*k+200<_;omega,r.gd⟩
theorem YbC {A:η} {C:Addr} {us:List Α} {kw:List (Str×Α)}:(A.under (.builtin "type.__call__" ⟨.ref C::us,kw⟩)).depth=A.depth+1:=by
 first | rfl | simp [k6,Code.weight,Code.isCreation,Code.isGuard,Code.isCaller,Code.frames,kX,guardIds]
theorem YbD {A:η} {C:Addr} {us:List Α} {kw:List (Str×Α)}:(A.under (.builtin "type.__call__" ⟨.ref C::us,kw⟩)).units=A.units+1:=by
 first | rfl | simp [k6,Code.cUnits,Code.frames,kX]
theorem aO.make {k:Nat} {A:η} (r:aO (k+1) A) (C:Addr) (us:List Α) (kw:List (Str×Α)):aO k (A.under (.builtin "type.__call__" ⟨.ref C::us,kw⟩)) :=
 ⟨r.hd,by have:=r.dp;rw [YbC];omega,by have:=r.un;rw [YbD];omega,by first | exact r.gd | simpa [k6,Code.isGuard,kX,guardIds] using r.gd⟩
theorem aO.depth {k:Nat} {A:η} (r:aO k A):A.depth<recursionLimit:=by have:=r.dp;omega
theorem aO.units {k:Nat} {A:η} (r:aO k A):A.units+64<cLine:=by have:=r.un;omega
def Q1:TA:=fun _ H Q=>Q [] H
def UC (ta:TE) (tr:TA):TA:=fun σ H Q=>ta σ H fun x H1=>tr σ H1 fun xs H2=>Q (x::xs) H2
section
variable {X:Cx} {e:Expr} {es:List Expr} {te:TE} {t:TA} {pos:Pos}
theorem Yc:PA X [] Q1:=fun _ _ _ _ H Q I h=>Calls.spliced_nil ⟨[],H,I,.nil,h⟩
theorem Ya (ha:PE X e te) (hr:PA X es t) (hs:Τ (e::es) X.env=(false,eval e X.env)::Τ es X.env:=by rfl):PA X (e::es) (UC te t):=by
 intro pos pins s σ H Q I h;rw [hs]
 show Μ _ _ (spliced ((false,eval e X.env)::be pos (Τ es X.env))) _ _ s
 refine Calls.spliced_cons (aG (ha pins s σ H _ I h) fun u s1 ⟨x,H1,I1,r1,q1⟩=>?_);exact aG (hr pos pins s1 σ H1 _ I1 q1) fun us s2 ⟨xs,H2,I2,r2,q2⟩=>⟨x::xs,H2,I2,.cons r1 r2,q2⟩
def uH (t:TA):TE:=fun σ H Q=>t σ H fun xs H1=>xs.length<=sizeLine/\∀ p,H1 p=none->Q (.ref p) (upd H1 p (.tup xs))
def uI (t:TA):TE:=fun σ H Q=>t σ H fun xs H1=>xs.length<=sizeLine/\∀ p,H1 p=none->Q (.ref p) (upd H1 p (.lst xs))
theorem YR {x1} (h:PA X es t):PE X (.Tuple es x1 pos) (uH t):=by
 intro pins s σ H Q I hq;refine wpAny_Tuple_spliced (aG (h pos pins s σ H _ I hq) fun us s1 ⟨xs,H1,I1,r,z,q⟩=>⟨by rw [<- r.length];exact z,?_⟩);have hf:H1 s1.heap.objs.size=none:=I1.hok.fresh (Ν _);refine ⟨.ref s1.heap.objs.size,upd H1 s1.heap.objs.size (.tup xs),I1.laid (t':=s1.toks) (fun b u e=>Ζ _ e) (Ν _) ?_,rfl,q _ hf⟩;exact ⟨z,us,r,⟨_,δ _ rfl,rfl,_,rfl⟩⟩
theorem Y0 (h:PA X es t):PE X (.List es pos) (uI t):=by
 intro pins s σ H Q I hq;refine wpAny_List_spliced (aG (h pos pins s σ H _ I hq) fun us s1 ⟨xs,H1,I1,r,z,q⟩=>⟨by rw [<- r.length];exact z,?_⟩);have hf:H1 s1.heap.objs.size=none:=I1.hok.fresh (Ν _);refine ⟨.ref s1.heap.objs.size,upd H1 s1.heap.objs.size (.lst xs),I1.laid (t':=s1.toks) (fun b u e=>Ζ _ e) (Ν _) ?_,rfl,q _ hf⟩;exact ⟨z,us,0,r,δ _ rfl⟩
end
abbrev Sp:=List V->Hp->VK->XK->Prop
abbrev gk:=List Env->Hp->Β->XK->Α->Β->Prop
structure fQ (P:Ρ) (w:Ω) (K:Ι) (mg:Str->Option Α) (base:Heap) (A:η) (outer:List Env) (s:Β) (H:Hp):Prop where
 frames:A.frames=some outer
 mod:Mod K mg base
 bs:∀ b o,base.get? b=some o->s.heap.get? b=some o/\H b=none
 gR:base.objs.size<=s.heap.objs.size
 dz:s.heap.FunFrames base outer
 iz:∀ b∈frs outer,H b=none
 hok:bD P w H s.heap
 bare:hV s.gens
def CE (outer:List Env) (P:Ρ) (w:Ω) (H:Hp) (s:Β) (Q:VK) (u:Α) (s':Β):Prop :=
 ∃ v H',s'.os=s.os/\hV s'.gens/\Un (frs outer) [] H H' s.heap s'.heap/\bD P w H' s'.heap/\YH v u/\Q v H'
def CR (CX:gk) (outer:List Env) (P:Ρ) (w:Ω) (H:Hp) (s:Β) (Q:VK) (E:XK) (r:Result) (s':Β):Prop :=
 match r with
 | .ok (.ret u)=>CE outer P w H s Q u s'
 | .ok _=>False
 | .error e=>CX outer H s E e s'
structure bG (P:Ρ) (w:Ω) (K:Ι) (mg:Str->Option Α) (base:Heap) (CX:gk) (k:Nat) (f:Addr) (fd:ba) (ps:List Str) (sp:Sp):Prop where
 len:∀ vs H Q E,sp vs H Q E->vs.length=ps.length
 run:∀ (A:η) (outer:List Env) (s:Β) (H:Hp) (args:Args) (us:List Α) (vs:List V) (Q:VK) (E:XK),aO k A->fQ P w K mg base A outer s H->BindsTo s fd args (ps.zip us)->Yz vs us->sp vs H Q E ->
  ei (Ξ P w) A (.call (.ref f) args) (CR CX outer P w H s Q E) s
theorem bG.mono {P:Ρ} {w:Ω} {K:Ι} {mg:Str->Option Α} {base:Heap} {CX:gk} {j k:Nat} {f:Addr} {fd:ba} {ps:List Str} {sp:Sp} (F:bG P w K mg base CX j f fd ps sp) (h:j<=k) :
  bG P w K mg base CX k f fd ps sp:=⟨F.len,fun A outer s H args us vs Q E hr=>F.run A outer s H args us vs Q E (hr.mono h)⟩
theorem fQ.make {P:Ρ} {w:Ω} {K:Ι} {mg:Str->Option Α} {base:Heap} {A:η} {outer:List Env} {s:Β} {H:Hp} (e:fQ P w K mg base A outer s H) (C:Addr) (us:List Α) (kw:List (Str×Α)) :
  fQ P w K mg base (A.under (.builtin "type.__call__" ⟨.ref C::us,kw⟩)) outer s H:=⟨by first | exact e.frames | (simpa [k6,Code.envs,kX,pushEnvs] using e.frames),e.mod,e.bs,e.gR,e.dz,e.iz,e.hok,e.bare⟩
section
variable {X:Cx} {pins:List (Addr×Obj)} {σ:St} {H:Hp} {s s':Β}
theorem Inv.env0 (I:Inv X pins σ H s):fQ X.prog X.w X.K X.mg X.base X.A X.stack s H :=
 ⟨I.ok.frames,I.ok.mod,I.bs,ap I.ok.gR I.sz,I.stack,I.gb,I.hok,I.bare⟩
theorem Inv.after {Q:VK} {u:Α} (I:Inv X pins σ H s) (h:CE X.stack X.prog X.w H s Q u s'):EP X pins σ Q u s':=by
 obtain ⟨v,H',os,bare,un,hok,r,q⟩:=h;obtain ⟨hh,g,d,t,os'⟩:=s';obtain rfl:os'=s.os:=os;exact ⟨v,H',I.call (h':=hh) (g':=g) (d':=d) (t':=t) (ch:=[]) un hok bare (fun b z=>absurd z (by simp)),r,q⟩
end
def V3 (sp:Sp) (cN:List V) (E:XK) (t:TA):TE:=fun σ H Q=>t σ H fun vs H1=>sp (vs++cN) H1 Q E
inductive MeQ (H:Hp) (a C:Addr) (m:Str) (Q:Prop):Prop
 | mk (dx:Addr) (fs:List (Str×V)) (h:H a=some (.ins C dx fs)) (l:fs.lookup m=none) (q:Q)
def QM (C:Addr) (m:Str) (sp:Sp) (cN:List V) (E:XK) (ta:TE) (t:TA):TE:=fun σ H Q=>ta σ H fun x H1=>kR x fun a=>MeQ H1 a C m (t σ H1 fun vs H2=>sp (.ref a::(vs++cN)) H2 Q E)
def QN (C:Addr) (sp:Sp) (cN:List V) (E:XK) (t:TA):TE:=fun σ H Q=>t σ H fun vs H1=>∀ x dx,H1 x=none->H1 dx=none->dx≠x ->
 sp (.ref x::(vs++cN)) (upd (upd H1 dx (.own x)) x (.ins C dx [])) (fun v H2=>v = .non/\Q (.ref x) H2) E
def Xh (K:Ι) (fd:ba) (ps:List Str) (ds:List Α):Prop :=
 ∀ (s:Β) (us:List Α),K.In s.heap->(us++ds).length=ps.length->BindsTo s fd ⟨us,[]⟩ (ps.zip (us++ds))
theorem Xh.all {K:Ι} {fd:ba} {ps:List Str} (h:∀ us:List Α,us.length=ps.length->gi fd ⟨us,[]⟩=pure (ps.zip us)):Xh K fd ps []:=fun s us _ hl=>by
 rw [bi] at hl ⊢
 exact .of_eq (h us hl)
def X1 (CX:gk) (X:Cx) (E:XK):Prop:=∀ (pins:List (Addr×Obj)) (σ:St) (H:Hp) (s:Β) (e:Α) (s':Β),Inv X pins σ H s->CX X.stack H s E e s'->X.xe e s'
section
variable {X:Cx} {CX:gk} {k:Nat} {f C:Addr} {fd:ba} {ps:List Str} {sp:Sp} {cN:List V} {ds:List Α} {E:XK} {x m:Str} {p pos apos:Pos} {e o:Expr} {es:List Expr} {ta:TE} {t:TA}
theorem Vg {pins:List (Addr×Obj)} {σ:St} {H:Hp} {s:Β} {Q:VK} {us:List Α} {vs:List V} (F:bG X.prog X.w X.K X.mg X.base CX k f fd ps sp) (hr:aO k X.A) (hb:Xh X.K fd ps ds) (hd:Yz cN ds) (hx:X1 CX X E)
  (I:Inv X pins σ H s) (r:Yz vs us) (h:sp (vs++cN) H Q E):Μ (Ξ X.prog X.w) X.A (call (.ref f) us) (EP X pins σ Q) X.xe s:=by
 have r2:Yz (vs++cN) (us++ds):=r.append hd;have hl:(us++ds).length=ps.length:=by rw [<- r2.length];exact F.len _ _ _ _ h
 refine iE (fF (F.run X.A X.stack s H ⟨us,[]⟩ (us++ds) (vs++cN) Q E hr I.env0 (hb s us I.bf hl) r2 h) fun r s' hq=>?_)
 cases r with
 | error e=>exact hx pins σ H s e s' I hq
 | ok fl =>
  cases fl with
  | ret u=>exact I.after hq
  | next=>exact az hq
  | brk=>exact az hq
  | cont=>exact az hq
theorem JW (F:bG X.prog X.w X.K X.mg X.base CX k f fd ps sp) (hr:aO k X.A) (hg:Gl X x) (hm:X.mg x=some (.ref f)) (hk:dP X.K (.ref f)=true) (hb:Xh X.K fd ps ds) (hd:Yz cN ds) (hx:X1 CX X E)
  (ha:PA X (e::es) t) (hdb:(x==("__debug__":Str))=false:=by decide) (he:Τ (e::es) X.env=(false,eval e X.env)::Τ es X.env:=by rfl) (hpl:(be pos (Τ es X.env)).any (·.1)=false:=by rfl) :
  PE X (.Call (.Name x p) (e::es) [] pos) (V3 sp cN E t):=by
 intro pins s σ H Q I h;refine bz (X8 I hg hm ?_ hdb);refine dn (h₀:=X.base) I.ok.mod.jc hk (aG (ha pos pins s σ H _ I h) fun us s1 ⟨vs,H1,I1,r,q⟩=>⟨I1.bf,?_⟩) he hpl;exact Vg F hr hb hd hx I1 r q
theorem Yfb {pl:Sem Bool} (he:PE X o ta) (c:Cls X.K C) (hm:Meth X.K C m f) (F:bG X.prog X.w X.K X.mg X.base CX k f fd ps sp) (hr:aO k X.A) (hb:Xh X.K fd ps ds) (hd:Yz cN ds) (hx:X1 CX X E) (ha:PA X (e::es) t)
  (hst:Τ (e::es) X.env=(false,eval e X.env)::Τ es X.env:=by rfl) (hpl:(be pos (Τ es X.env)).any (·.1)=false:=by rfl)
  (ht:eval (.Call (.Attribute o m apos) (e::es) [] pos) X.env=(do
   let ov <- eval o X.env
   standAt apos.atName
   let (f,first) <- holding [ov] (i9 ov m pl)
   kP pos f first (be pos (Τ (e::es) X.env)) (kQ pos (i3 [] X.env))):=by rfl) :
  PE X (.Call (.Attribute o m apos) (e::es) [] pos) (QM C m sp cN E ta t):=by
 intro pins s σ H Q I h;refine PySem.W.methodCall_KW (pl:=pl) (aG (he pins s σ H _ I h) fun u s1 ⟨x,H1,I1,rx,q⟩=>?_) ht
 replace q:=WQ.mp q
 obtain ⟨a,ex,dx,fs,ea,l,q⟩:=q;subst ex;obtain rfl:u=ζ a:=rx;refine UB I1 ea c hm l ?_;refine dn (first:=[.ref a]) (h₀:=X.base) I.ok.mod.jc hm.kp (aG (ha pos pins s1 σ H1 _ I1 q) fun us s2 ⟨vs,H2,I2,r,q2⟩=>⟨I2.bf,?_⟩) hst hpl;exact Vg (us := .ref a::us) (vs := .ref a::vs) F hr hb hd hx I2 (.cons rfl r) q2
structure Mk (K:Ι) (C f:Addr):Prop where
 makes:W.makesIn K C=true
 init:bS K (.ref C) "__init__"=some (some (.ref f))
 fn:W.isFn K (.ref f)=true
 kp:dP K (.ref C)=true
theorem YdF {pins:List (Addr×Obj)} {σ:St} {H:Hp} {s:Β} {Q:VK} {us:List Α} {vs:List V} (M:Mk X.K C f) (F:bG X.prog X.w X.K X.mg X.base CX k f fd ps sp) (hr:aO (k+1) X.A) (hb:Xh X.K fd ps ds) (hd:Yz cN ds)
  (hx:X1 CX X E) (I:Inv X pins σ H s) (r:Yz vs us)
  (h:∀ x dx,H x=none->H dx=none->dx≠x->sp (.ref x::(vs++cN)) (upd (upd H dx (.own x)) x (.ins C dx [])) (fun v H2=>v = .non/\Q (.ref x) H2) E) :
  Μ (Ξ X.prog X.w) X.A (call (.ref C) us) (EP X pins σ Q) X.xe s:=by
 have hq:=h (s.heap.objs.size+1) s.heap.objs.size (I.hok.fresh (lc _)) (I.hok.fresh (Ν _)) (ρ (Nat.lt_succ_self _));have I2:=Inv.made (C:=C) I;have r2:Yz (V.ref (s.heap.objs.size+1)::(vs++cN)) (ζ (s.heap.objs.size+1)::(us++ds)) := .cons rfl (r.append hd);have hl:(ζ (s.heap.objs.size+1)::us++ds).length=ps.length:=by
  have e:=r2.length;rw [F.len _ _ _ _ hq] at e
  exact e.symm
 refine iE (YdE (f:=f) I.bf M.makes M.init (beq_iff_eq.mp M.fn) (fF (F.run _ X.stack _ _ ⟨ζ (s.heap.objs.size+1)::us,[]⟩ (ζ (s.heap.objs.size+1)::(us++ds)) _ _ E (hr.make C us [])
  (I2.env0.make C us []) (hb _ (ζ (s.heap.objs.size+1)::us) I2.bf hl) r2 hq) fun r s' hq'=>?_))
 cases r with
 | error e=>exact hx pins σ _ _ e s' I2 hq'
 | ok fl =>
  cases fl with
  | ret u =>
   obtain ⟨v,H',I3,rv,ev,q3⟩:=I2.after hq';subst ev;exact ⟨rv,⟨V.ref (s.heap.objs.size+1),H',I3,rfl,q3⟩⟩
  | next=>exact az hq'
  | brk=>exact az hq'
  | cont=>exact az hq'
theorem Yfc (M:Mk X.K C f) (F:bG X.prog X.w X.K X.mg X.base CX k f fd ps sp) (hr:aO (k+1) X.A) (hg:Gl X x) (hm:X.mg x=some (.ref C)) (hb:Xh X.K fd ps ds) (hd:Yz cN ds) (hx:X1 CX X E)
  (ha:PA X (e::es) t) (hdb:(x==("__debug__":Str))=false:=by decide) (he:Τ (e::es) X.env=(false,eval e X.env)::Τ es X.env:=by rfl) (hpl:(be pos (Τ es X.env)).any (·.1)=false:=by rfl) :
  PE X (.Call (.Name x p) (e::es) [] pos) (QN C sp cN E t):=by
 intro pins s σ H Q I h;refine bz (X8 I hg hm ?_ hdb);refine dn (h₀:=X.base) I.ok.mod.jc M.kp (aG (ha pos pins s σ H _ I h) fun us s1 ⟨vs,H1,I1,r,q⟩=>⟨I1.bf,?_⟩) he hpl;exact YdF M F hr hb hd hx I1 r q
end
structure ak (N P:List Str) (sc:da):Prop where
 kind:sc.kind = .function
 co:sc.isCoroutine=false
 gen:sc.isGenerator=false
 nd:N.Nodup
 pre:N.take P.length=P
 par:∀ x∈P,sc.names.lookup x=some .local\/sc.names.lookup x=some .cell
 zp:∀ y∈sc.names,y.2 ≠ .free
theorem Qk {kindOf:Str->Option ik} {x:Str}:∀ {binds:List (Str×Α)} {m:Str->Option Α},(∀ v,(x,v)∉binds)->bindL kindOf binds m x=m x
 | [],_,_=>rfl
 | (n,v)::r,m,h=>by
  unfold bindL;rw [Qk fun w hw=>h w (bb _ hw)]
  split
  ·have:x≠n:=by rintro rfl;exact h v ee
   simp [this]
  ·rfl
theorem Ql {kindOf:Str->Option ik} {x:Str}:∀ {binds:List (Str×Α)} {m:Str->Option Α},(∀ v,(x,v)∉binds)->bindC kindOf binds m x=m x
 | [],_,_=>rfl
 | (n,v)::r,m,h=>by
  unfold bindC;rw [Ql fun w hw=>h w (bb _ hw)]
  split
  ·rfl
  ·have:x≠n:=by rintro rfl;exact h v ee
   simp [this]
theorem Qm {kindOf:Str->Option ik} {x:Str} {v:Α}:∀ {P:List Str} {vs:List Α} {i:Nat} {m:Str->Option Α},P.Nodup->P[i]?=some x->vs[i]?=some v->kindOf x=some .local ->
  bindL kindOf (P.zip vs) m x=some v
 | [],_,_,_,_,h,_,_=>by simp at h
 | _::_,[],_,_,_,_,h,_=>by simp at h
 | p::P,w::vs,0,m,nd,h1,h2,hk=>by
  simp at h1 h2;subst h1;subst h2
  show bindL kindOf ((p,w)::P.zip vs) m p=_
  unfold bindL;rw [Qk fun v hv=>(bg.mp nd).1 (dy hv).1,if_pos hk];simp
 | p::P,w::vs,i+1,m,nd,h1,h2,hk=>by
  show bindL kindOf ((p,w)::P.zip vs) m x=_
  unfold bindL;exact Qm (i:=i) (bg.mp nd).2 (by simpa using h1) (by simpa using h2) hk
theorem Qn {kindOf:Str->Option ik} {x:Str} {v:Α}:∀ {P:List Str} {vs:List Α} {i:Nat} {m:Str->Option Α},P.Nodup->P[i]?=some x->vs[i]?=some v->kindOf x≠some .local ->
  bindC kindOf (P.zip vs) m x=some v
 | [],_,_,_,_,h,_,_=>by simp at h
 | _::_,[],_,_,_,_,h,_=>by simp at h
 | p::P,w::vs,0,m,nd,h1,h2,hk=>by
  simp at h1 h2;subst h1;subst h2
  show bindC kindOf ((p,w)::P.zip vs) m p=_
  unfold bindC;rw [Ql fun v hv=>(bg.mp nd).1 (dy hv).1,if_neg hk];simp
 | p::P,w::vs,i+1,m,nd,h1,h2,hk=>by
  show bindC kindOf ((p,w)::P.zip vs) m x=_
  unfold bindC;exact Qn (i:=i) (bg.mp nd).2 (by simpa using h1) (by simpa using h2) hk
def Xw (N:List Str) (vs:List V):St:=vs.map some++List.replicate (N.length - vs.length) none
def Wo (CX:gk) (P:Ρ) (w:Ω) (K:Ι) (mg:Str->Option Α) (base:Heap) (N:List Str) (qual:Str) (scope:da) (f:Addr) (cd:Α) (A:η) (outer:List Env) (s:Β) (H:Hp) (E:XK):Cx where
 prog:=P
 w:=w
 K:=K
 mg:=mg
 base:=base
 A:=A.deeper (jn qual scope s.heap.objs.size f cd)
 N:=N
 s₀:=s
 H₀:=H
 env:=jn qual scope s.heap.objs.size f cd
 outer:=outer
 stack:=jn qual scope s.heap.objs.size f cd::outer
 ex:=[]
 calm:=true
 fn:=fun _=>true
 pn:=[]
 xe:=fun e s'=>Μ (Ξ P w) (A.deeper (jn qual scope s.heap.objs.size f cd)) (leaving (jn qual scope s.heap.objs.size f cd) e) (fun _ s''=>CX outer H s E e s'') (fun e' s''=>CX outer H s E e' s'') s'
theorem Q2 {sc:da} {n:Nat} {x:Str} (h:sc.names.lookup x=some .cell):∃ c,(cellsFrom n sc.names []).lookup x=some c:=by
 have q:=W.cellsFrom_some sc.names n [] (.inl h);exact Option.isSome_iff_exists.mp q
theorem Qo {CX:gk} {P:Ρ} {w:Ω} {K:Ι} {mg:Str->Option Α} {base:Heap} {N ps:List Str} {qual:Str} {scope:da} {f:Addr} {cd:Α} {A:η} {outer:List Env} {s s1:Β} {H:Hp} {E:XK} {us:List Α} {vs:List V}
  (S:ak N ps scope) (hd:A.handled=none) (e0:fQ P w K mg base A outer s H) (hl:vs.length=ps.length) (r:Yz vs us)
  (x:InCallC s s.heap.objs.size (bindL (jn qual scope s.heap.objs.size f cd).kindOf (ps.zip us) fun _=>none) (cellsFrom (s.heap.objs.size+1) scope.names []) (bindC (jn qual scope s.heap.objs.size f cd).kindOf (ps.zip us) fun _=>none) s1) :
  Inv (Wo CX P w K mg base N qual scope f cd A outer s H E) [] (Xw N vs) H s1:=by
 have hpl:ps.length<=N.length:=by have:=congrArg List.length S.pre;rw [ν] at this;omega
 obtain ⟨h1,tk,rfl,hk⟩:=x.done;have jP:∀ b:Addr,b∉(Wo CX P w K mg base N qual scope f cd A outer s H E).ex:=fun b z=>absurd (show b∈([]:List Addr) from z) (by simp)
 refine ⟨⟨e0.mod,S.kind,rfl,rfl,Ν _,fun y z c h1 h2=>?_,fun y hy=>?_,fun y c _ h=>?_,fun _=>hd,Around.frames_deeper e0.frames,.inr ⟨rfl,rfl⟩,fun b z=>absurd z (jP b),e0.bs,e0.gR,fun b _ _=>jP b,fun b z=>absurd z (jP b),e0.dz,e0.iz⟩,
  rfl,e0.bare,Un.kept hk,⟨_,x.toInCall.ns,fun i y v h1 h2 h3=>?_⟩,fun y c h=>⟨_,x.cell y c h⟩,e0.hok.fresh (Ν _),fun y c h=>?_,fun p hp=>absurd (show p∈([]:List (Addr×Obj)) from hp) (by simp),e0.hok.kept hk,?_⟩
 ·exact name_of_addr x.apart (b9 h1) (b9 h2)
 ·have hy:scope.names.lookup y=some .cell\/scope.names.lookup y=some .free:=hy
  rcases hy with hy | hy
  ·exact Q2 hy
  ·exact absurd rfl (S.zp _ (b9 hy))
 ·exact fT (x.above y c (b9 h))
 ·have hi:i<vs.length:=by
   unfold Xw at h2;by_cases hi:i<vs.length
   ·exact hi
   ·rw [ac (by simpa using hi)] at h2
    rw [List.getElem?_replicate] at h2
    split at h2<;>cases h2
  have ha:vs[i]?=some v:=by
   unfold Xw at h2;rw [υ (by simpa using hi),Υ] at h2
   cases e:vs[i]? with
   | none=>rw [e] at h2;cases h2
   | some a=>rw [e] at h2;cases h2;rfl
  obtain ⟨u,hu,rv⟩:=r.get ha;have hp:ps[i]?=some y:=by
   rw [<- S.pre,List.getElem?_take_of_lt (by omega)];exact h1
  have vf:ps.Nodup:=by rw [<- S.pre];exact S.nd.sublist (List.take_sublist _ _)
  refine ⟨u,rv,?_⟩;rcases S.par y (Χ hp) with k | k
  ·exact .inl ⟨k,Qm vf hp hu k⟩
  ·obtain ⟨c,e⟩:=Q2 (n:=s.heap.objs.size+1) k
   refine .inr ⟨.inl k,c,e,?_⟩;have q:=x.cell y c e;rw [Qn vf hp hu (by show scope.names.lookup y≠_;rw [k];decide)] at q
   exact q
 ·exact e0.hok.fresh (fT (x.above y c (b9 h)))
 ·unfold Xw
  show _=N.length
  rw [Κ,Θ,et];omega
theorem zq {CX:gk} {P:Ρ} {w:Ω} {K:Ι} {mg:Str->Option Α} {base:Heap} {k:Nat} {f:Addr} {name qual:Str} {params:jb} {body:List Stmt} {scope:da} {dV kV doc pm cdv ct oc:Α} {an od:Option Addr}
  {osl:Array (Option Α)} {N ps:List Str} {sp:Sp} (lk:K.lookup f=some ⟨oc,od,.func (cr name qual params body scope dV kV doc pm an cdv ct),osl⟩) (hcd:gf K cdv qual=true) (S:ak N ps scope)
  (len:∀ vs H Q E,sp vs H Q E->vs.length=ps.length)
  (hbody:∀ (A:η) (outer:List Env) (s:Β) (H:Hp) (vs:List V) (Q:VK) (E:XK),aO k (A.deeper (jn qual scope s.heap.objs.size f cdv))->sp vs H Q E ->
   ∃ t,eH (Wo CX P w K mg base N qual scope f cdv A outer s H E) body t/\t { nx:=fun _ H'=>Q .non H',rt:=Q } (Xw N vs) H) :
  bG P w K mg base CX (k+1) f (cr name qual params body scope dV kV doc pm an cdv ct) ps sp:=by
 refine ⟨len,fun A outer s H args us vs Q E hr e0 hb r hsp=>?_⟩;have hl:=len _ _ _ _ hsp;have KX:K.In s.heap:=e0.mod.jc.keeps fun b o e=>(e0.bs b o e).1
 have lim:s.heap.NoLimit:=e0.mod.nolimit.keeps fun b o e=>(e0.bs b o e).1
 have hkind:∀ y∈ps.zip us,scope.names.lookup y.1=some .local\/(scope.names.lookup y.1=some .cell/\((cellsFrom (s.heap.objs.size+1) scope.names []).lookup y.1).isSome=true):=fun ⟨n,v⟩ hy=>by
  rcases S.par n (dy hy).1 with q | q
  ·exact .inl q
  ·exact .inr ⟨q,W.cellsFrom_some _ _ _ (.inl q)⟩
 refine codeAny_call_function hr.depth (KX _ _ lk) rfl S.co S.gen rfl (W.codeRec_of KX hcd) (hb _ _ _ _ ?_);refine wpAny_newFunctionEnv_cells S.kind hkind fun env he s1 x=>?_
 subst he;refine ⟨lim.keeps x.toInCall.keep,codeAny_func ?_⟩;obtain ⟨t,ht,hq⟩:=hbody A outer s H vs Q E (hr.deeper _) hsp;have I:Inv (Wo CX P w K mg base N qual scope f cdv A outer s H E) [] (Xw N vs) H s1:=Qo S hr.hd e0 hl r x;refine aa (ht [] s1 (Xw N vs) H _ I hq) (fun fl s' hs=>?_) fun e s' hs=>hs
 have fin:∀ {σ':St} {H':Hp} {v:V} {u:Α},Inv (Wo CX P w K mg base N qual scope f cdv A outer s H E) [] σ' H' s'->YH v u->Q v H'->CE outer P w H s Q u s' :=
  fun {σ' H' v u} J rv q=>⟨v,H',J.os,J.bare,J.base,J.hok,rv,q⟩
 cases fl with
 | ret u =>
  obtain ⟨v,σ',H',J,rv,q⟩:=hs;exact fin J rv q
 | next =>
  obtain ⟨σ',H',J,q⟩:=hs;exact fin (v:=V.non) (u:=ck) J rfl q
 | brk =>
  obtain ⟨_,_,_,q⟩:=hs;exact az q
 | cont =>
  obtain ⟨_,_,_,q⟩:=hs;exact az q
section
variable {X:Cx} {x:Str} {p pos:Pos} {e:Expr} {es:List Expr} {t:TA} {id T:String} {r:List V->Hp->VK->Prop}
def pF (r:List V->Hp->VK->Prop) (t:TA):TE:=fun σ H Q=>t σ H fun vs H1=>r vs H1 Q
theorem YdG (hc:XC X (.builtin id) r) (hg:Gl X x) (hm:X.mg x=none) (hv:d6 x=some (.builtin id)) (ha:PA X (e::es) t) (hn:x≠"__name__":=by decide) (hdb:(x==("__debug__":Str))=false:=by decide)
  (he:Τ (e::es) X.env=(false,eval e X.env)::Τ es X.env:=by rfl) (hpl:(be pos (Τ es X.env)).any (·.1)=false:=by rfl):PE X (.Call (.Name x p) (e::es) [] pos) (pF r t):=by
 intro pins s σ H Q I h;refine bz (X0 I hg hm hv ?_ hn hdb);exact PyProof.Rows.callWith_builtin1 (aG (ha pos pins s σ H _ I h) fun us s1 ⟨vs,H1,I1,r1,q1⟩=>hc pins s1 σ H1 vs us Q I1 r1 q1) he hpl
theorem YcD (hc:XC X (.type T) r) (hg:Gl X x) (hm:X.mg x=none) (hv:d6 x=some (.type T)) (ha:PA X (e::es) t) (hn:x≠"__name__":=by decide) (hdb:(x==("__debug__":Str))=false:=by decide)
  (he:Τ (e::es) X.env=(false,eval e X.env)::Τ es X.env:=by rfl) (hpl:(be pos (Τ es X.env)).any (·.1)=false:=by rfl):PE X (.Call (.Name x p) (e::es) [] pos) (pF r t):=by
 intro pins s σ H Q I h;refine bz (X0 I hg hm hv ?_ hn hdb);exact a7 (aG (ha pos pins s σ H _ I h) fun us s1 ⟨vs,H1,I1,r1,q1⟩=>hc pins s1 σ H1 vs us Q I1 r1 q1) he hpl
end
end L2
namespace HT
open PySem PyProof.Rows
section
variable {prog:Ρ} {w:Ω} {A:η} {E:Α->Β->Prop} {s:Β}
def aV (n d:Nat):Option Int->Nat
 | none=>d
 | some v=>if v<0 then (v+(n:Int)).toNat else min v.toNat n
theorem mV (n d:Nat):aV n d none=d:=rfl
theorem pG (n d k:Nat):aV n d (some (k:Int))=min k n:=by
 show (if (k:Int)<0 then ((k:Int)+(n:Int)).toNat else min (k:Int).toNat n)=min k n
 rw [if_neg (by omega),fA]
theorem YfW (n d:Nat) (hd:d<=n) (o:Option Int):aV n d o<=n:=by
 cases o with
 | none=>exact hd
 | some v =>
  show (if v<0 then (v+(n:Int)).toNat else min v.toNat n)<=n
  by_cases hv:v<0
  ·rw [if_pos hv];omega
  ·rw [if_neg hv];exact Nat.min_le_right _ _
theorem JX (v:Int) (n d:Nat):(if v<0 then max (v+(n:Int)) 0 else min v (n:Int))=((aV n d (some v):Nat):Int):=by
 show (if v<0 then max (v+(n:Int)) 0 else min v (n:Int))=(((if v<0 then (v+(n:Int)).toNat else min v.toNat n):Nat):Int)
 by_cases hv:v<0
 ·simp only [if_pos hv];omega
 ·simp only [if_neg hv];omega
theorem YbF (lo hi:Option Int) (n:Nat):Builtin.Slice.sliceAdjust lo hi 1 (n:Int)=(((aV n 0 lo:Nat):Int),((aV n n hi:Nat):Int)):=by
 have h1:¬ ((1:Int)<0):=by omega
 unfold Builtin.Slice.sliceAdjust;simp only [h1,if_false];refine Prod.ext ?_ ?_
 ·cases lo with
  | none=>rfl
  | some v=>exact JX v n 0
 ·cases hi with
  | none=>rfl
  | some v=>exact JX v n n
theorem YbG (i j:Nat):eC (i:Int) (j:Int) 1=j - i:=by
 unfold eC;have h1:(1:Int)>0:=by omega
 simp only [h1,if_true,Int.ediv_one]
 split<;>omega
theorem UD {v:Α} {o:Option Int} {Q:Option Int->Β->Prop} (p:IsPart v o) (h:Q o s):Μ (Ξ prog w) A (Builtin.Slice.slicePartIndex v) Q E s:=by
 cases p with
 | none=>exact slicePart_none h
 | int i t=>exact slicePart_int h
theorem Uj {sl:Addr} {vl vu:Α} {lo hi:Option Int} {n:Nat} {Q:Int×Int×Nat->Β->Prop} (hs:s.heap.IsSliceOf sl vl vu .none) (pl:IsPart vl lo) (pu:IsPart vu hi)
  (h:Q (((aV n 0 lo:Nat):Int),1,aV n n hi - aV n 0 lo) s):Μ (Ξ prog w) A (Builtin.Slice.sliceApplied (.ref sl) (pure (n:Int))) Q E s:=by
 obtain ⟨os,hos,hcs,hds⟩:=id hs;unfold Builtin.Slice.sliceApplied Builtin.Slice.sliceFields;refine Δ (Δ (c8 hos hds (x:=vl) rfl (Δ (c8 hos hds (x:=vu) rfl (Δ (c8 hos hds (x := .none) rfl (Ο ?_)))))));refine Δ (slicePart_none ?_)
 show Μ _ _ (if ((1:Int)==0)=true then _ else _) _ _ s
 rw [if_neg (by decide)];refine Δ (UD pl (Δ (UD pu (Δ (Ο ?_)))))
 show Μ _ _ (match Builtin.Slice.sliceAdjust lo hi 1 (n:Int) with | (lo,hi)=>pure (lo,(1:Int),eC lo hi 1)) _ _ s
 rw [YbF lo hi n]
 show Μ _ _ (pure (((aV n 0 lo:Nat):Int),(1:Int),eC ((aV n 0 lo:Nat):Int) ((aV n n hi:Nat):Int) 1)) _ _ s
 rw [YbG];exact Ο h
theorem YdH (xs:Array Α) (i k:Nat):((a9 k).filterMap fun (m:Nat)=>xs[((i:Int)+(m:Int)*1).toNat]?).toArray=((xs.toList.drop i).take k).toArray:=by
 have e:(fun (m:Nat)=>xs[((i:Int)+(m:Int)*1).toNat]?)=fun m=>xs[i+m]?:=by
  funext m
  have:((i:Int)+(m:Int)*1).toNat=i+m:=by omega
  rw [this]
 rw [e];have:=pick_run xs i k;rw [List.filterMap_map] at this
 have e2:((fun x=>xs[x]?) ∘ fun x=>i+x)=fun m=>xs[i+m]?:=rfl
 rw [e2] at this
 rw [this]
theorem jC {t sl:Addr} {items:Array Α} {vl vu:Α} {lo hi:Option Int} {Q:Α->Β->Prop} (ht:IsTup s.heap t items) (hs:s.heap.IsSliceOf sl vl vu .none) (pl:IsPart vl lo) (pu:IsPart vu hi)
  (hw:¬ (aV items.size 0 lo=0/\aV items.size items.size hi=items.size))
  (h:Q (.ref s.heap.objs.size) { s with heap:=s.heap.push { cls := .type "tuple",data := .seq ((items.toList.drop (aV items.size 0 lo)).take (aV items.size items.size hi - aV items.size 0 lo)).toArray } })
  (hsz:items.size<=sizeLine):Μ (Ξ prog w) A (j2 (.ref t) (.ref sl)) Q E s:=by
 have mG:sizeOk (.seq ((items.toList.drop (aV items.size 0 lo)).take (aV items.size items.size hi - aV items.size 0 lo)).toArray):=by
  show ((items.toList.drop (aV items.size 0 lo)).take (aV items.size items.size hi - aV items.size 0 lo)).toArray.size<=sizeLine
  rw [ς,ν,aI,Array.length_toList];omega
 have hj:aV items.size items.size hi<=items.size:=YfW _ _ (Ν _) hi;obtain ⟨os,hos,hcs,hds⟩:=id hs;have hTs:s.TypeIs (.ref sl) "slice":=⟨os,hos,hcs⟩;unfold j2
 try with_reducible refine i5 ?_
 first | refine Δ (Ο ?_) | skip
 refine Δ (wpAny_sequenceKey ht.typeIs (by decide) ?_);refine Δ (dE (name:=ah "__getitem__") ht.typeIs PyProof.Rows.slot_tuple_getitem
  (eL PyProof.Rows.slot_tuple_getitem ht.typeIs entry_tuple_getitem ?_ (args_tuple_getitem _ _)))
 show Μ _ _ (Builtin.Tuple.tupleItemsOf (.ref t) >>= _) _ _ s
 refine Δ (tupleItemsOf_ ht ?_);refine Δ (wpAny_typeOf hTs ?_);rw [if_pos (by decide)];refine Δ (Uj hs pl pu ?_);have hno:¬ ((((aV items.size 0 lo:Nat):Int)==0&&(1:Int)==1&&(aV items.size items.size hi - aV items.size 0 lo)==items.size)=true):=by
  intro q;rw [c6,c6] at q
  have q1:((aV items.size 0 lo:Nat):Int)=0:=eq_of_beq q.1.1;have q2:aV items.size items.size hi - aV items.size 0 lo=items.size:=eq_of_beq q.2;exact hw ⟨by omega,by omega⟩
 show Μ _ _ (if (((aV items.size 0 lo:Nat):Int)==0&&(1:Int)==1&&(aV items.size items.size hi - aV items.size 0 lo)==items.size)=true then _ else _) _ _ s
 rw [if_neg hno,YdH]
 first
  | exact Δ (m:=eM _) (cK (Ο ⟨_,rfl,Ο h⟩) mG)
  | exact Δ (m:=eM _) (cK (Δ (Ο (Ο ⟨_,rfl,Ο h⟩))) mG)
  | exact Δ (Δ (m:=eM _) (cK (Ο (Ο ⟨_,rfl,Ο h⟩)) mG))
  | exact Δ (Δ (m:=eM _) (cK (Ο ⟨_,rfl,Ο h⟩) mG))
end
end HT
namespace L2
open PySem PySem.Spec PyProof.Rows
abbrev TO:=St->Hp->(Option Int->Hp->Prop)->Prop
def PO (X:Cx) (e:Option Expr) (t:TO):Prop :=
 ∀ (pins:List (Addr×Obj)) (s:Β) (σ:St) (H:Hp) (Q:Option Int->Hp->Prop),Inv X pins σ H s->t σ H Q ->
  Μ (Ξ X.prog X.w) X.A (evalPart e X.env) (fun u s'=>∃ o H',Inv X pins σ H' s'/\IsPart u o/\Q o H') X.xe s
def UU:TO:=fun _ H Q=>Q none H
def zu (t:TE):TO:=fun σ H Q=>t σ H fun x H1=>kI x fun i=>Q (some i) H1
theorem YbI {ns:List Int}:∀ {us:List Α},Yz (ns.map V.int) us->IntsAre us ns:=by
 induction ns with
 | nil=>intro us r;rw [ip] at r;cases r;exact .nil
 | cons n ns ih =>
  intro us r;rw [aS] at r
  cases r with
  | cons r1 r2 =>
   obtain ⟨t,e⟩:=r1;subst e;exact .cons n t (ih r2)
section
variable {X:Cx} {e:Expr} {te:TE} {lo hi:Option Expr} {tl th:TO} {pos p2:Pos}
theorem Xx:PO X none UU:=by
 intro pins s σ H Q I h;rw [kC];exact Ο ⟨none,H,I,.none,h⟩
theorem Xy (h:PE X e te):PO X (some e) (zu te):=by
 intro pins s σ H Q I hw;rw [ku];refine aG (h pins s σ H _ I hw) fun u s1 ⟨x,H1,I1,r1,q1⟩=>?_
 obtain ⟨i,rfl,q⟩:=UT.mp q1;obtain ⟨t,rfl⟩:=r1;exact ⟨some i,H1,I1,.int i t,q⟩
def vg (X:Cx) (r:V->Option Int->Option Int->Hp->VK->Prop):Prop :=
 ∀ (pins:List (Addr×Obj)) (s:Β) (σ:St) (H:Hp) (x:V) (v vl vu:Α) (lo hi:Option Int) (sl:Addr) (Q:VK),Inv X pins σ H s->YH x v->s.heap.IsSliceOf sl vl vu .none->IsPart vl lo->IsPart vu hi->r x lo hi H Q ->
  ∃ T id,kH (.type T) "__getitem__"=pure (some (.builtin id))/\s.TypeIs v T/\Μ (Ξ X.prog X.w) X.A (j2 v (.ref sl)) (EP X pins σ Q) X.xe s
def zx (r:V->Option Int->Option Int->Hp->VK->Prop) (te:TE) (tl th:TO):TE:=fun σ H Q=>te σ H fun x H1=>tl σ H1 fun l H2=>th σ H2 fun u H3=>r x l u H3 Q
theorem Xr {r:V->Option Int->Option Int->Hp->VK->Prop} (hr:vg X r) (he:PE X e te) (hl:PO X lo tl) (hu:PO X hi th):PE X (.Subscript e (.Slice lo hi none p2) pos) (zx r te tl th):=by
 intro pins s σ H Q I h;refine kK (aG (he pins s σ H _ I h) fun v s1 ⟨x,H1,I1,r1,q1⟩=>?_);refine wpAny_Slice (aG (hl pins s1 σ H1 _ I1 q1) fun vl s2 ⟨l,H2,I2,pl,q2⟩=>aG (hu pins s2 σ H2 _ I2 q2) fun vu s3 ⟨u,H3,I3,pu,q3⟩=>?_);rw [kC];refine Ο ?_;have I4:Inv X pins σ H3 { s3 with heap:=s3.heap.push { cls := .type "slice",data := .fields #[vl,vu,.none] } }:=I3.kept (t':=s3.toks) fun b ob q=>Ζ _ q
 obtain ⟨T,id,hT,ht,hg⟩:=hr pins { s3 with heap:=s3.heap.push { cls := .type "slice",data := .fields #[vl,vu,.none] } } σ H3 x v vl vu l u s3.heap.objs.size Q I4 r1 (Heap.IsSliceOf.new ..) pl pu q3
 show Μ (Ξ X.prog X.w) X.A (subscriptTail e (.Slice lo hi none p2) v (.ref s3.heap.objs.size)) (EP X pins σ Q) X.xe { s3 with heap:=s3.heap.push { cls := .type "slice",data := .fields #[vl,vu,.none] } }
 exact tail_any (ops:=[.ref s3.heap.objs.size,v]) ht hT hg (by with_unfolding_all rfl)
def WJ (xs:List V) (lo hi:Option Int):List V:=(xs.drop (HT.aV xs.length 0 lo)).take (HT.aV xs.length xs.length hi - HT.aV xs.length 0 lo)
theorem Ud (xs:List V) (lo hi:Option Int):(WJ xs lo hi).length<=xs.length:=by
 unfold WJ;rw [ν,aI];omega
def RD (K:Ι):V->Option Int->Option Int->Hp->VK->Prop:=fun x lo hi H Q=>∃ a xs,x = .ref a/\aq K H a xs /\
 ¬ (HT.aV xs.length 0 lo=0/\HT.aV xs.length xs.length hi=xs.length)/\∀ p,H p=none->Q (.ref p) (upd H p (.tup (WJ xs lo hi)))
theorem YfX:vg X (RD X.K):=by
 intro pins s σ H x v vl vu lo hi sl Q I rx hs pl pu h;obtain ⟨a,xs,rfl,hx,hw,q⟩:=h
 cases rx
 obtain ⟨its,r,ht,hz⟩:=I.tuple hx;have hlen:its.toArray.size=xs.length:=by rw [ς];exact r.length.symm
 refine ⟨"tuple",_,PyProof.Rows.slot_tuple_getitem.lookup,ht.typeIs,?_⟩;refine HT.jC ht hs pl pu (by rw [hlen];exact hw) ?_ (by rw [hlen];exact hz);rw [hlen];refine ⟨.ref s.heap.objs.size,_,I.laid (t':=s.toks) (o := .tup (WJ xs lo hi)) (fun b ob q=>Ζ _ q) (Ν _) ?_,rfl,q _ (I.hok.fresh (Ν _))⟩;exact ⟨ap (Ud xs lo hi) hz,_,(r.drop (HT.aV xs.length 0 lo)).take (HT.aV xs.length xs.length hi - HT.aV xs.length 0 lo),IsTup.new _ _⟩
end
def mW (n:Nat) (i:Int):Option Nat:=if 0<=i then (if i<n then some i.toNat else none) else if -(n:Int)<=i then some (i+n).toNat else none
def pH {α:Type} (xs:List α) (i:Int):Option α:=(mW xs.length i).bind fun j=>xs[j]?
theorem Yfd {n:Nat} {i:Int} {j:Nat} (h:mW n i=some j):seqIndex? i n=some j/\j<n /\ -(n:Int)<=i/\i<n:=by
 unfold mW at h;by_cases h0:0<=i
 ·rw [if_pos h0] at h
  by_cases h1:i<n
  ·rw [if_pos h1] at h
   have e:i.toNat=j:=Ε h;exact ⟨by rw [seqIndex_of h0 h1,e],by omega,by omega,h1⟩
  ·rw [if_neg h1] at h;cases h
 ·rw [if_neg h0] at h
  by_cases h1 : -(n:Int)<=i
  ·rw [if_pos h1] at h
   have e:(i+n).toNat=j:=Ε h;exact ⟨by rw [seqIndex_neg (by omega) h1,e],by omega,h1,by omega⟩
  ·rw [if_neg h1] at h;cases h
theorem JZ {α:Type} {xs:List α} {i:Int} {v:α} (h:pH xs i=some v):∃ j,seqIndex? i xs.length=some j/\xs[j]?=some v/\j<xs.length /\ -(xs.length:Int)<=i/\i<xs.length:=by
 unfold pH at h
 cases e:mW xs.length i with
 | none=>rw [e] at h;cases h
 | some j =>
  rw [e] at h
  obtain ⟨h1,h2,h3,h4⟩:=Yfd e;exact ⟨j,h1,h,h2,h3,h4⟩
theorem Yk {α:Type} {xs:List α} {j:Nat} {v:α} (h:xs[j]?=some v):pH xs (j:Int)=some v:=by
 have hj:j<xs.length:=(Η.mp h).1;have e:mW xs.length (j:Int)=some j:=by
  unfold mW;rw [if_pos (by omega),if_pos (by omega)];simp
 unfold pH;rw [e];exact h
def Yfe (b:Expr):Prop:=∀ o i,subscripted b false o i=operate [o,i] (j2 o i)
def vh (X:Cx) (r:R2):Prop :=
 ∀ (value slice:Expr) (pins:List (Addr×Obj)) (s:Β) (σ:St) (H:Hp) (x y:V) (v u:Α) (Q:VK),Inv X pins σ H s->YH x v->YH y u->r x y H Q ->
  subscripted slice false v u=operate [v,u] (j2 v u)->Μ (Ξ X.prog X.w) X.A (subscriptTail value slice v u) (EP X pins σ Q) X.xe s
def vm (X:Cx) (id:String) (r:V->List V->Hp->VK->Prop):Prop :=
 ∀ (pins:List (Addr×Obj)) (s:Β) (σ:St) (H:Hp) (x:V) (xs:List V) (v:Α) (us:List Α) (Q:VK),Inv X pins σ H s->YH x v->Yz xs us->r x xs H Q ->
  Μ (Ξ X.prog X.w) X.A (call (.builtin id) (v::us)) (EP X pins σ Q) X.xe s
section
variable {X:Cx} {a b:Expr} {ta tb:TE} {pos:Pos}
theorem Yu {r:R2} (hr:vh X r) (ha:PE X a ta) (hb:PE X b tb) (hs:Yfe b):PE X (.Subscript a b pos) (lA r ta tb):=by
 intro pins s σ H Q I h;exact kK (ux ha hb I h fun v u s2 x y H2 I2 rx ry q=>hr a b pins s2 σ H2 x y v u Q I2 rx ry q (hs _ _))
inductive pI (S:List V->Prop) (i:Int) (Q:V->Prop):Prop
 | mk (xs:List V) (h:S xs) (v:V) (e:pH xs i=some v) (q:Q v)
def uJ (K:Ι):R2:=fun x y H Q=>kR x fun p=>kI y fun i=>pI (aA K H p) i fun v=>Q v H
theorem pI.e {S:Addr->List V->Prop} {x y:V} {Q:V->Prop} (h:kR x fun p=>kI y fun i=>pI (S p) i Q):∃ p xs i v,x = .ref p/\y = .int i/\S p xs/\pH xs i=some v/\Q v:=by
 obtain ⟨p,e1,h⟩:=WQ.mp h;obtain ⟨i,e2,xs,h1,v,h2,h3⟩:=UT.mp h;exact ⟨p,xs,i,v,e1,e2,h1,h2,h3⟩
def vo (K:Ι):R2:=fun x y H Q=>kR x fun p=>kI y fun i=>pI (aq K H p) i fun v=>Q v H
theorem Xo:vh X (uJ X.K):=by
 intro value slice pins s σ H x y v u Q I rx ry h hs
 replace h:=pI.e h
 obtain ⟨p,xs,i,z,rfl,rfl,hq,he,q⟩:=h
 cases rx
 obtain ⟨t,rfl⟩:=ry;obtain ⟨its,r,pl,hz⟩:=I.list hq;obtain ⟨j,h1,h2,h3,h4,h5⟩:=JZ he;obtain ⟨w,ew,jQ⟩:=r.get h2;have hl:=r.length;have hn:=QZ;have fin:EP X pins σ Q w s:=⟨z,H,I,jQ,q⟩;by_cases h0:0<=i
 ·have hj:i.toNat=j:=by
   rw [seqIndex_of h0 h5] at h1
   exact Ε h1
  exact item_listR pl.isList h0 (by omega) (by rw [hj];simpa using ew) fin hs
 ·have hj:(i+(its.toArray.size:Int)).toNat=j:=by
   rw [seqIndex_neg (by omega) h4] at h1
   rw [ς,<- hl];exact Ε h1
  exact subscriptTail_builtinR (x:=w) pl.isList.typeIs slot_list_getitem.lookup
   (wpAny_getItem_list_neg (Q:=fun r s'=>r=w/\EP X pins σ Q r s') pl.isList (by omega) (by rw [ς]<;>omega) (by omega) (by rw [hj];simpa using ew) ⟨rfl,fin⟩) hs
theorem Yw:vh X (vo X.K):=by
 intro value slice pins s σ H x y v u Q I rx ry h hs
 replace h:=pI.e h
 obtain ⟨p,xs,i,z,rfl,rfl,hq,he,q⟩:=h
 cases rx
 obtain ⟨t,rfl⟩:=ry;obtain ⟨its,r,pl,hz⟩:=I.tuple hq;obtain ⟨j,h1,h2,h3,h4,h5⟩:=JZ he;obtain ⟨w,ew,jQ⟩:=r.get h2;have hl:=r.length;have hn:=QZ;have fin:EP X pins σ Q w s:=⟨z,H,I,jQ,q⟩;exact subscriptTail_builtinR (x:=w) pl.typeIs slot_tuple_getitem.lookup
  (getItem_tuple (j:=j) (Q:=fun r s'=>r=w/\EP X pins σ Q r s') pl (by omega) (by omega) (by rw [ς,<- hl];exact h1) (by simpa using ew) ⟨rfl,fin⟩) hs
def J0:V->V->V->Hp->(Hp->Prop)->Prop:=fun o i v H Q=>∃ p xs k j,o = .ref p/\i = .int k/\H p=some (.lst xs)/\mW xs.length k=some j/\Q (upd H p (.lst (xs.set j v)))
theorem Q3 (lo hi:Option Int) (n:Nat):(cE lo hi none n).1=((HT.aV n 0 lo:Nat):Int)/\(cE lo hi none n).2.1=((HT.aV n n hi:Nat):Int)/\(cE lo hi none n).2.2=1:=by
 refine ⟨?_,?_,rfl⟩
 ·cases lo with
  | none=>simp [cE,HT.aV]
  | some i =>
   simp only [cE,HT.aV,Option.getD_none,show (1:Int)>0 by decide,if_true];by_cases h:i<0
   ·simp only [h,if_true]<;>omega
   ·simp only [h,if_false]<;>omega
 ·cases hi with
  | none=>simp [cE,HT.aV]
  | some i =>
   simp only [cE,HT.aV,Option.getD_none,show (1:Int)>0 by decide,if_true];by_cases h:i<0
   ·simp only [h,if_true]<;>omega
   ·simp only [h,if_false]<;>omega
theorem QC (its:List Α) (lo hi:Option Int):slicePick its.toArray lo hi none=((its.drop (HT.aV its.length 0 lo)).take (HT.aV its.length its.length hi - HT.aV its.length 0 lo)).toArray:=by
 obtain ⟨h1,h2,h3⟩:=Q3 lo hi its.toArray.size;unfold slicePick;rw [h1,h2,h3];simp only [sliceRange_one,pick_run,ς]<;>rfl
inductive SlQ (K:Ι) (H:Hp) (a:Addr) (Q:List V->Prop):Prop
 | mk (xs:List V) (h:aA K H a xs) (q:Q xs)
def vp (K:Ι):V->Option Int->Option Int->Hp->VK->Prop:=fun x lo hi H Q=>kR x fun a=>SlQ K H a fun xs=>∀ p,H p=none->Q (.ref p) (upd H p (.lst (WJ xs lo hi)))
theorem WN:vg X (vp X.K):=by
 intro pins s σ H x v vl vu lo hi sl Q I rx hs pl pu h;obtain ⟨a,rfl,xs,hx,q⟩:=WQ.mp h
 cases rx
 obtain ⟨its,r,ht,hz⟩:=I.list hx;have hlen:=r.length;refine ⟨"list",_,slot_list_getitem.lookup,ht.isList.typeIs,?_⟩;refine wpAny_getItem_list_slice ht.isList hs pl pu .none (by simp) ?_ (by rw [ς]<;>omega);rw [QC,<- hlen];refine ⟨.ref s.heap.objs.size,_,I.laid (t':=s.toks) (o := .lst (WJ xs lo hi)) (fun b ob q=>Ζ _ q) (Ν _) ?_,rfl,q _ (I.hok.fresh (Ν _))⟩;exact ⟨ap (Ud xs lo hi) hz,_,0,(r.drop (HT.aV xs.length 0 lo)).take (HT.aV xs.length xs.length hi - HT.aV xs.length 0 lo),δ _ rfl⟩
def W2:V->Bool
 | .non=>true
 | .bl _=>true
 | .int _=>true
 | .str _=>true
 | _=>false
def lB:V->V->Bool
 | .non,.non=>true
 | .bl a,.bl b=>a==b
 | .bl a,.int b=>(if a then 1 else 0)==b
 | .int a,.bl b=>a==(if b then 1 else 0)
 | .int a,.int b=>a==b
 | .str a,.str b=>a==b
 | _,_=>false
theorem YfY {A:η} {s:Β} {y x:V} {u v:Α} (ry:YH y u) (rx:YH x v) (fy:W2 y=true) (fx:W2 x=true):lm A s u v (lB y x):=by
 cases y with
 | non =>
  cases ry
  cases x with
  | non=>cases rx;exact SeqAt.EqAt.same _
  | bl b=>cases rx;exact SeqAt.EqAt.none_bool b
  | int b=>obtain ⟨t,rfl⟩:=rx;exact SeqAt.EqAt.none_int b t
  | str b=>obtain ⟨t,rfl⟩:=rx;exact SeqAt.EqAt.none_str b t
  | _=>exact absurd (show false=true from fx) θ
 | bl a =>
  cases ry
  cases x with
  | non=>cases rx;exact SeqAt.EqAt.bool_none a
  | bl b=>cases rx;exact SeqAt.EqAt.bool_bool a b
  | int b=>obtain ⟨t,rfl⟩:=rx;exact SeqAt.EqAt.bool_int a b t
  | str b=>obtain ⟨t,rfl⟩:=rx;exact SeqAt.EqAt.bool_str a b t
  | _=>exact absurd (show false=true from fx) θ
 | int a =>
  obtain ⟨t',rfl⟩:=ry
  cases x with
  | non=>cases rx;exact SeqAt.EqAt.int_none a t'
  | bl b=>cases rx;exact SeqAt.EqAt.int_bool a t' b
  | int b=>obtain ⟨t,rfl⟩:=rx;exact SeqAt.EqAt.int_int a t' b t
  | str b=>obtain ⟨t,rfl⟩:=rx;exact SeqAt.EqAt.int_str a t' b t
  | _=>exact absurd (show false=true from fx) θ
 | str a =>
  obtain ⟨t',rfl⟩:=ry
  cases x with
  | non=>cases rx;exact SeqAt.EqAt.str_none a t'
  | bl b=>cases rx;exact SeqAt.EqAt.str_bool a t' b
  | int b=>obtain ⟨t,rfl⟩:=rx;exact SeqAt.EqAt.str_int a t' b t
  | str b=>obtain ⟨t,rfl⟩:=rx;exact SeqAt.EqAt.str_str a t' b t
  | _=>exact absurd (show false=true from fx) θ
 | _=>exact absurd (show false=true from fy) θ
def jR (x:V) (u:Α):Bool:=match u with
 | .none=>lB .non x
 | .bool b=>lB (.bl b) x
 | .int i _=>lB (.int i) x
 | .str z _=>lB (.str z) x
 | _=>false
theorem J1 {x y:V} {u:Α} (r:YH y u) (f:W2 y=true):jR x u=lB y x:=by
 cases y with
 | non=>cases r;rfl
 | bl b=>cases r;rfl
 | int i=>obtain ⟨t,rfl⟩:=r;rfl
 | str z=>obtain ⟨t,rfl⟩:=r;rfl
 | _=>exact absurd (show false=true from f) θ
theorem UV {x:V}:∀ {xs:List V} {us:List Α},Yz xs us->xs.all W2=true->us.any (jR x)=xs.any fun y=>lB y x
 | _,_,.nil,_=>rfl
 | y::xs,u::us,.cons r t,f=>by
  rw [List.all_cons,c6] at f
  rw [List.any_cons,List.any_cons,J1 r f.1,UV t f.2]
theorem Uk {A:η} {s:Β} {x:V} {v:Α} (rx:YH x v) (fx:W2 x=true):∀ {xs:List V} {us:List Α},Yz xs us->xs.all W2=true->∀ u∈us,lm A s u v (jR x u)
 | _,_,.nil,_=>fun u hu=>by cases hu
 | y::xs,u::us,.cons r t,f=>fun u' hu=>by
  rw [List.all_cons,c6] at f
  rcases Ψ.mp hu with rfl | hu
  ·rw [J1 r f.1];exact YfY r rx f.1 fx
  ·exact Uk rx fx t f.2 u' hu
def inV (x:V) (xs:List V):Bool:=xs.any fun y=>lB y x
def zy (K:Ι) (neg:Bool):R2:=fun x y H Q=>∃ p xs,y = .ref p/\(aA K H p xs\/aq K H p xs)/\W2 x=true/\xs.all W2=true/\Q (.bl (if neg then !inV x xs else inV x xs)) H
theorem Qp:cu X (bj .In) (zy X.K false):=by
 intro pins s σ H x y v u Q I rx ry h;obtain ⟨p,xs,rfl,hq,fx,fs,q⟩:=h
 cases ry
 rcases hq with hq | hq
 ·obtain ⟨its,r,pl,hz⟩:=I.list hq
  refine SeqAt.in_listAt (jR x) pl.isList (fun w hw=>Uk rx fx r fs w (by simpa using hw)) ⟨.bl _,H,I,rfl,?_⟩;rw [show its.toArray.any (jR x)=its.any (jR x) by simp,UV r fs];exact q
 ·obtain ⟨its,r,pl,hz⟩:=I.tuple hq
  refine SeqAt.in_tupleAt (jR x) pl (fun w hw=>Uk rx fx r fs w (by simpa using hw)) ⟨.bl _,H,I,rfl,?_⟩;rw [show its.toArray.any (jR x)=its.any (jR x) by simp,UV r fs];exact q
inductive RG (K:Ι) (H:Hp) (p:Addr) (Q:Int->Prop):Prop
 | mk (ys:List V) (h:aA K H p ys\/aq K H p ys) (q:Q ys.length)
def uK (K:Ι):List V->Hp->VK->Prop:=fun xs H Q=>k1 xs fun x=>kR x fun p=>RG K H p fun n=>Q (.int n) H
theorem YF:XC X (.builtin "len") (uK X.K):=by
 intro pins s σ H xs us Q I r h;obtain ⟨x,rfl,h1⟩:=yJ h;obtain ⟨p,rfl,ys,hq,q⟩:=WQ.mp h1;obtain ⟨u,rfl,rx⟩:=WK r
 cases rx
 have hn:=QZ;rcases hq with hq | hq
 ·obtain ⟨its,r',pl,hz⟩:=I.list hq
  have hlen:=r'.length;exact Calls.call_len_list pl.isList (by simp only [ς]<;>omega) ⟨.int ys.length,H,I.tok _,⟨s.toks+1,by rw [ς,hlen]⟩,q⟩
 ·obtain ⟨its,r',pl,hz⟩:=I.tuple hq
  have hlen:=r'.length;exact len_tuple pl (by simp only [ς]<;>omega) ⟨.int ys.length,H,I.tok _,⟨s.toks+1,by rw [ς,hlen]⟩,q⟩
theorem VO:XC X (.type "list") (fun xs H Q=>∃ p ys,xs=[.ref p]/\(aA X.K H p ys\/aq X.K H p ys)/\∀ l,H l=none->Q (.ref l) (upd H l (.lst ys))):=by
 intro pins s σ H xs us Q I r h;obtain ⟨p,ys,rfl,hq,q⟩:=h;obtain ⟨u,rfl,rx⟩:=WK r
 cases rx
 have fin:∀ (its:List Α),Yz ys its->ys.length<=sizeLine->∀ (h':Heap) (c':Nat),(∀ b o',s.heap.get? b=some o'->h'.get? b=some o') ->
   h'.get? s.heap.objs.size=some { cls := .type "list",dict:=none,data := .seq its.toArray c',slots:=#[] }->EP X pins σ Q (.ref s.heap.objs.size) { s with heap:=h' }:=fun its r' hz h' c' kp e =>
  ⟨.ref s.heap.objs.size,_,I.laid (t':=s.toks) kp (Ν _) (show YO X.prog X.w _ h' _ (.lst ys) from ⟨hz,its,c',r',e⟩),rfl,q _ (I.hok.fresh (Ν _))⟩
 rcases hq with hq | hq
 ·obtain ⟨its,r',pl,hz⟩:=I.list hq
  have hlen:=r'.length;obtain ⟨o,ho,hc,n,hd⟩:=pl.isList;exact call_list_seq p (.inl rfl) ho hc hd (fun h' c' kp e=>fin its r' hz h' c' kp e) (by simp only [ς]<;>omega)
 ·obtain ⟨its,r',pl,hz⟩:=I.tuple hq
  have hlen:=r'.length;obtain ⟨o,ho,hc,n,hd⟩:=pl;exact call_list_seq p (.inr rfl) ho hc hd (fun h' c' kp e=>fin its r' hz h' c' kp e) (by simp only [ς]<;>omega)
theorem Xz:XC X (.type "tuple") (fun xs H Q=>∃ p ys,xs=[.ref p]/\((aA X.K H p ys/\∀ l,H l=none->Q (.ref l) (upd H l (.tup ys)))\/(aq X.K H p ys/\Q (.ref p) H))):=by
 intro pins s σ H xs us Q I r h;obtain ⟨p,ys,rfl,h⟩:=h;obtain ⟨u,rfl,rx⟩:=WK r
 cases rx
 rcases h with ⟨hq,q⟩ | ⟨hq,q⟩
 ·obtain ⟨its,r',pl,hz⟩:=I.list hq
  have hlen:=r'.length;refine call_tuple_list pl.isList (fun h' kp=>?_) (by simp only [ς]<;>omega);have I1:Inv X pins σ H { s with heap:=h' }:=I.kept (t':=s.toks) kp;have I2:Inv X pins σ (upd H h'.objs.size (.tup ys)) { s with heap:=h'.push { cls := .type "tuple",data := .seq its.toArray } } :=
   I1.laid (t':=s.toks) (fun b o e=>Ζ _ e) (Ν _) (show YO X.prog X.w _ _ _ (.tup ys) from ⟨hz,its,r',IsTup.new _ _⟩)
  exact ⟨.ref h'.objs.size,_,I2,rfl,q _ (I1.hok.fresh (Ν _))⟩
 ·obtain ⟨its,r',pl,hz⟩:=I.tuple hq
  exact call_tuple_same pl ⟨.ref p,H,I,rfl,q⟩
def zA (K:Ι) (T:String) (x:V) (H:Hp):Prop:=match x with
 | .str _=>T="str"
 | .int _=>T="int"
 | .ref p=>(T="list"/\∃ xs,aA K H p xs)\/(T="tuple"/\∃ o,K.lookup p=some o/\o.cls = .type "tuple"/\o.dict=none) \/
   (T="dict"/\((∃ kvs,H p=some (.dK kvs))\/∃ kvs,H p=some (.dT kvs)))\/(T="set"/\∃ S n,H p=some (.set S n))
 | _=>False
theorem J2 {pins:List (Addr×Obj)} {σ:St} {H:Hp} {s:Β} {T:String} {x:V} {v:Α} (I:Inv X pins σ H s) (r:YH x v) (ty:zA X.K T x H) :
  s.TypeIs v T/\∀ a,v = .ref a->∃ ob,s.heap.get? a=some ob/\ob.dict=none:=by
 cases x with
 | str z =>
  obtain ⟨t,rfl⟩:=r
  cases (show T="str" from ty)
  exact ⟨typeIs_str s z t,fun _ e=>nomatch e⟩
 | int i =>
  obtain ⟨t,rfl⟩:=r
  cases (show T="int" from ty)
  exact ⟨typeIs_int s i t,fun _ e=>nomatch e⟩
 | ref p =>
  cases r
  rcases ty with ⟨rfl,xs,hq⟩ | ⟨rfl,o,hk,hc,hd⟩ | ⟨rfl,hk⟩ | ⟨rfl,S,n,hk⟩
  ·obtain ⟨its,_,pl,_⟩:=I.list hq
   refine ⟨pl.isList.typeIs,fun a e=>?_⟩
   cases e
   obtain ⟨o,n,e,c,hd,_⟩:=pl;exact ⟨o,e,hd⟩
  ·refine ⟨⟨o,I.bf p o hk,hc⟩,fun a e=>?_⟩
   cases e
   exact ⟨o,I.bf _ o hk,hd⟩
  ·have z:∃ o,s.heap.get? p=some o/\o.ExactDict:=by
    rcases hk with ⟨kvs,hk⟩ | ⟨kvs,hk⟩
    ·obtain ⟨_,_,_,_,o,_,_,e,ex,_⟩:=I.hok p _ hk
     exact ⟨o,e,ex⟩
    ·obtain ⟨_,_,_,_,o,_,_,e,ex,_⟩:=I.hok p _ hk
     exact ⟨o,e,ex⟩
   obtain ⟨o,e,ex⟩:=z;refine ⟨⟨o,e,ex.1⟩,fun a e2=>?_⟩
   cases e2
   exact ⟨o,e,ex.2.1⟩
  ·obtain ⟨o,_,_,_,e,ex,_⟩:=I.hok p _ hk
   refine ⟨⟨o,e,ex.1⟩,fun a e2=>?_⟩
   cases e2
   exact ⟨o,e,ex.2.1⟩
 | _=>exact az ty
def uL (K:Ι) (T:String) (r:V->List V->Hp->VK->Prop) (to:TE):TE:=fun σ H Q=>to σ H fun x H1=>zA K T x H1/\r x [] H1 Q
def zB (K:Ι) (T:String) (r:V->List V->Hp->VK->Prop) (to:TE) (t:TA):TE:=fun σ H Q=>to σ H fun x H1=>zA K T x H1/\t σ H1 fun xs H2=>r x xs H2 Q
variable {o e:Expr} {es:List Expr} {to:TE} {t:TA} {name:Str} {apos cpos:Pos} {T id:String} {r:V->List V->Hp->VK->Prop}
theorem YfZ (pa:PlainAttrs T) (slot:Slot T name id) (hty:typeOf (.builtin id)=pure (.type "method_descriptor")) (hm:vm X id r) (ho:PE X o to)
  (hbase:i6 o name X.env (eval o X.env)=eval o X.env) (hline:(apos.endLine==cpos.line)=true):PE X (.Call (.Attribute o name apos) [] [] cpos) (uL X.K T r to):=by
 intro pins s σ H Q I h;refine wpAny_Call_method0_late hbase hline (aG (ho pins s σ H _ I h) fun v s1 ⟨x,H1,I1,r1,ty,q1⟩=>?_);obtain ⟨h1,h2⟩:=J2 I1 r1 ty;exact ⟨T,id,pa,slot,hty,h1,h2,Calls.callWith_builtin rfl (PySem.evalArgs_none (hm pins s1 σ H1 x [] v [] Q I1 r1 .nil q1))⟩
theorem X4 (pa:PlainAttrs T) (slot:Slot T name id) (hty:typeOf (.builtin id)=pure (.type "method_descriptor")) (hm:vm X id r) (ho:PE X o to) (ha:PA X (e::es) t)
  (hbase:i6 o name X.env (eval o X.env)=eval o X.env)
  (hfew:((be cpos (Τ (e::es) X.env)).all (fun x => !x.1)&&(kQ cpos (i3 [] X.env)).all (fun x=>x.1.isSome)
   && decide ((e::es).length+([]:List Keyword).length+(if ([]:List Keyword).isEmpty then 0 else 1)<30))=true)
  (hline:(apos.endLine==cpos.line)=true) (hs:Τ (e::es) X.env=(false,eval e X.env)::Τ es X.env) (hplain:(be cpos (Τ es X.env)).any (·.1)=false) :
  PE X (.Call (.Attribute o name apos) (e::es) [] cpos) (zB X.K T r to t):=by
 intro pins s σ H Q I h;refine wpAny_Call_method_late hbase hfew hline rfl (aG (ho pins s σ H _ I h) fun v s1 ⟨x,H1,I1,r1,ty,q1⟩=>?_);obtain ⟨h1,h2⟩:=J2 I1 r1 ty;refine ⟨T,id,pa,slot,hty,h1,h2,?_⟩;have hA:=ha cpos pins s1 σ H1 _ I1 q1;rw [hs] at hA ⊢
 refine Calls.callWith_builtin (by show (false||(be cpos (Τ es X.env)).any (·.1))=false;rw [hplain]<;>rfl) (Calls.evalArgs_plain ?_);exact aG hA fun us s2 ⟨vs,H2,I2,r2,q2⟩=>hm pins s2 σ H2 x vs v us Q I2 r1 r2 q2
/- xs.append(e),list.index on a module's tuple .. are vm facts of 06m -/
end
def J3 (X:Cx) (id:String) (r:V->List V->Hp->VK->Prop):Prop :=
 ∀ (pins:List (Addr×Obj)) (s:Β) (σ:St) (H:Hp) (x:V) (xs:List V) (v:Α) (us:List Α) (Q:VK),Inv X pins σ H s->YH x v->Yz xs us->r x xs H Q ->
  Μ (Ξ X.prog X.w) X.A (call (.builtin id) (v::us)) (EP X pins σ Q) X.xe s
theorem Yz.one:∀ {x:V} {us:List Α},Yz [x] us->∃ u,us=[u]/\YH x u
 | _,_,.cons r .nil=>⟨_,rfl,r⟩
theorem Yz.two:∀ {x y:V} {us:List Α},Yz [x,y] us->∃ u v,us=[u,v]/\YH x u/\YH y v
 | _,_,_,.cons r (.cons q .nil)=>⟨_,_,rfl,r,q⟩
theorem Yz.reverse {xs:List V} {us:List Α} (h:Yz xs us):Yz xs.reverse us.reverse:=by
 induction h with
 | nil=>exact .nil
 | cons r t ih=>rw [List.reverse_cons,List.reverse_cons];exact Yz.append ih (.cons r .nil)
section
variable {X:Cx} {pins:List (Addr×Obj)} {σ:St} {H:Hp} {s:Β} {l b:Addr} {xs ys zs:List V}
theorem Inv.zE {its its':List Α} {n:Nat} {f:Array Α->Array Α} {t':Nat} (I:Inv X pins σ H s) (hH:H l=some (.lst xs))
  (e:s.heap.get? l=some { cls := .type "list",data := .seq its.toArray n }) (hf:f its.toArray=its'.toArray) (hv:Yz ys its') (hz:ys.length<=sizeLine) :
  Inv X pins σ (upd H l (.lst ys)) { s with heap:=s.heap.update l (gv f),toks:=t' }:=by
 have q:=PySem.IsL.update e f;rw [hf] at q
 refine I.write (x:=l) (e:=l) (by rw [hH];exact trivial) (.inl rfl) (fun b' u hb hu=>(dm s.heap (gv f) (ψ hb)).trans hu) ⟨_,q⟩ ?_;exact ⟨hz,its',_,hv,q⟩
theorem Inv.zF {its:List Α} {t':Nat} (I:Inv X pins σ H s) (hv:Yz ys its) (hz:ys.length<=sizeLine) :
  Inv X pins σ (upd H s.heap.objs.size (.lst ys)) { s with heap:=s.heap.push { cls := .type "list",data := .seq its.toArray },toks:=t' } :=
 I.laid (fun _ _ q=>Ζ _ q) (Ν _) ⟨hz,its,0,hv,δ _ rfl⟩
theorem Inv.fresh (I:Inv X pins σ H s):H s.heap.objs.size=none:=I.hok.fresh (Ν _)
theorem Inv.mX (I:Inv X pins σ H s) (hH:H l=some (.lst xs)):xs.length<=sizeLine/\∃ (its:List Α) (n:Nat),Yz xs its/\xs.length=its.length/\s.heap.get? l=some { cls := .type "list",data := .seq its.toArray n }:=by
 obtain ⟨z,its,n,r,e⟩:=I.hok l _ hH;exact ⟨z,its,n,r,r.length,e⟩
theorem YdI {n:Nat} (h:n<=sizeLine):Builtin.List.listTooLong n=false:=by
 unfold Builtin.List.listTooLong;exact decide_eq_false (by omega)
end
section
variable {X:Cx}
inductive RJ (H:Hp) (l:Addr) (Q:List V->Prop):Prop
 | mk (xs:List V) (h:H l=some (.lst xs)) (hz:xs.length<sizeLine) (q:Q xs)
def UW:V->List V->Hp->VK->Prop:=fun x vs H Q=>kR x fun l=>k1 vs fun y=>RJ H l fun xs=>Q .non (upd H l (.lst (xs++[y])))
theorem Xv:J3 X "list.append" UW:=by
 intro pins s σ H x vs v us Q I rx rv h;obtain ⟨l,rfl,h1⟩:=WQ.mp h;obtain ⟨y,rfl,xs,hH,hz,q⟩:=yJ h1
 cases rx
 obtain ⟨u,rfl,ru⟩:=rv.one;obtain ⟨z,its,n,r,hl,e⟩:=I.mX hH;refine call_meets bE ⟨_,e,rfl⟩ F.entry_list_append (F.args_list_append_2 _ _) (PySem.list_append l its.toArray n u (by rw [ς];omega)) ⟨e,?_⟩;refine ⟨.non,_,I.zE (its':=its++[u]) hH e (by simp) (r.append (.cons ru .nil)) ?_,rfl,q⟩;rw [Κ,ω];omega
def Yff:V->List V->Hp->VK->Prop:=fun x vs H Q=>∃ l b xs zs,x = .ref l/\vs=[.ref b]/\H l=some (.lst xs)/\H b=some (.lst zs)/\xs.length+zs.length<=sizeLine/\Q .non (upd H l (.lst (xs++zs)))
theorem VP:J3 X "list.extend" Yff:=by
 intro pins s σ H x vs v us Q I rx rv h;obtain ⟨l,b,xs,zs,rfl,rfl,hH,hB,hz,q⟩:=h
 cases rx
 obtain ⟨u,rfl,ru⟩:=rv.one
 cases ru
 obtain ⟨z,its,n,r,hl,e⟩:=I.mX hH;obtain ⟨z2,its2,n2,r2,hl2,e2⟩:=I.mX hB;have hsz:its.toArray.size+its2.toArray.size<=sizeLine:=by rw [ς,ς];omega
 have Ij:¬ (!its.toArray.isEmpty&&Builtin.List.listTooLong (its.toArray.size+its2.toArray.size))=true:=by
  rw [YdI hsz,Bool.and_false];exact θ
 refine call_meets F.slot_list_extend ⟨_,e,rfl⟩ F.entry_list_extend (F.args_list_extend_2 _ _)
  (AutoSeq1.list_extend_list_list_0 l its.toArray n b its2.toArray n2 Ij (by rw [ς];omega) (by omega)) ⟨e,e2,?_⟩
 refine ⟨.non,_,I.zE (its':=its++its2) hH e (by simp) (r.append r2) ?_,rfl,q⟩;rw [Κ];omega
def Q4:V->List V->Hp->VK->Prop:=fun x vs H Q=>∃ l xs,x = .ref l/\vs=[]/\H l=some (.lst xs)/\Q .non (upd H l (.lst xs.reverse))
inductive RL (H:Hp) (l b:Addr) (Q:List V->List V->Prop):Prop
 | mk (xs:List V) (h:H l=some (.lst xs)) (zs:List V) (h':H b=some (.lst zs)) (hz:xs.length+zs.length<=sizeLine) (q:Q xs zs)
def uM:R2:=fun x y H Q=>kR x fun l=>kR y fun b=>RL H l b fun xs zs=>∀ p,H p=none->Q (.ref p) (upd H p (.lst (xs++zs)))
theorem Xu:cu X (gs .Add) uM:=by
 intro pins s σ H x y v u Q I rx ry h;obtain ⟨l,rfl,h1⟩:=WQ.mp h;obtain ⟨b,rfl,xs,hH,zs,hB,hz,q⟩:=WQ.mp h1
 cases rx
 cases ry
 obtain ⟨z,its,n,r,hl,e⟩:=I.mX hH;obtain ⟨z2,its2,n2,r2,hl2,e2⟩:=I.mX hB;refine PySem.P.add_list e e2 ?_ (by rw [ς,ς];omega);have ea:its.toArray++its2.toArray=(its++its2).toArray:=by simp
 rw [ea];exact ⟨.ref _,_,I.zF (t':=s.toks) (r.append r2) (by rw [Κ];omega),rfl,q _ I.fresh⟩
end
end L2
namespace J4
open PySem PySem.W PySem.Calls PyProof.Rows
theorem UE {P:Params} {h:Heap}:∀ (ns:List Int) (vs:List Α),WellAll P h vs (ns.map WData.int)->IntsAre vs ns:=by
 intro ns
 induction ns with
 | nil =>
  intro vs w;rw [ip] at w
  cases w
  exact .nil
 | cons n ns ih =>
  intro vs w;rw [aS] at w
  cases w with
  | cons a b =>
   cases a
   exact .cons _ _ (ih _ b)
theorem YcG {l:OpenLaw} {n:Nat} (hn:l.most=some n) {P:Params} {h:Heap} {args:List WData} {vals:List Α}
  (hpre:l.row.toRowW.claim.pre args=true) (hwl:WellAll P h vals args) :
  ∃ a vs ns,vals=[ζ a]/\args=[WData.list (ns.map WData.int)]/\h.get? a=some { cls := .type "list",data := .seq vs.toArray }/\IntsAre vs ns/\ns.length<=n:=by
 have hsh:WShape.hasAll [] args [.list .int]=true:=(pre_splitW hpre).1;have hc:l.pre.holds [] { args:=args }=true:=(pre_splitW hpre).2;obtain ⟨d,r,rfl,h1,h2⟩:=hasAllW_cons hsh;obtain rfl:=hasAllW_nil h2;obtain ⟨xs,rfl,h3⟩:=hasW_list h1;obtain ⟨ns,rfl⟩:=items_int h3;have hlen:ns.length<=n:=by
  unfold OpenLaw.pre at hc;have h4:(WTm.not (.lt (.lit (.int (n:Int))) (.len (.arg 0)))).holds [] { args:=[.list (ns.map .int)] }=true:=by
   have h4:=(holds_andW hc).1;rw [hn] at h4
   exact h4
  have h5:=condW_of h4 (w_not (w_lt w_lit (w_len_list (w_arg rfl))));rw [Θ] at h5
  refine Nat.le_of_not_lt fun q=>?_
  have q':(n:Int)<((ns.length:Nat):Int):=by omega
  first
   | (rw [decide_eq_true q'] at h5;exact absurd h5 (by decide))
   | (simp at h5;omega)
 cases hwl with
 | cons w1 w2 =>
  cases w2
  cases w1 with
  | list ho hall=>exact ⟨_,_,ns,rfl,rfl,ho,UE ns _ hall,hlen⟩
theorem YcH (l:OpenLaw) (args:List WData):l.row.toRowW.claim.post args (.bool true) args=true :=
 postW_of (r:=l.row.toRowW) (X:=(true==true))
  (show WShape.has [] (.bool true) .bool=true by first | rfl | decide | simp [WShape.has,WShape.arms,WShape.armsAll])
  (show (WTm.eq .res (.lit (.bool true))).value [] { args:=args,res:=some (.bool true),after:=args }=some (.bool (true==true)) from w_eq_bool (w_res rfl) w_lit) rfl
theorem oN {l:OpenLaw} {n:Nat} {q:Ρ} {loose:List Str} {XP:(Str->Option Α)->Heap->Prop} {YP:Ω->Heap->Prop} {d:DefRec}
  (hn:l.most=some n) (hdf:d.params.defaults=[])
  (call:∀ (w:Ω) (s₀ s₁:Β) (mg mb:Str->Option Α) (fa:Addr) (o:Obj) (pm cd doc:Α) (a:Addr) (vs:List Α) (ns:List Int),
   Ground q loose [] XP w s₀ mg mb s₁.heap->YP w s₁.heap ->
   s₁.heap.get? fa=some o->o.data = .func (docDef d.name d.params d.body d.scope pm cd doc)->s₁.heap.CodeRec cd d.name->mg d.name=some (.ref fa) ->
   s₁.heap.get? a=some { cls := .type "list",data := .seq vs.toArray }->IntsAre vs ns->ns.length<=n->s₁.gens=#[] ->
   ei (Ξ l.prog w) callerA (.call (.ref fa) ⟨[.ref a],[]⟩) (fun r s'=>r = .ok (.ret (.bool true))/\OldK s₁.heap s'.heap/\s'.os=s₁.os/\hV s'.gens) s₁) :
  WalkO q loose XP YP l.row.toRowW d [] (fun f vs=>PySem.call f vs):=by
 intro w s₀ s₁ mg mb G Y fa o pm cd doc dV kV ho hd hcd hD hmg hg args vals as hpre hlay hrd hwl hlo;obtain rfl:dV = .none:=Dflts.none hD hdf;obtain rfl:kV = .none:=Dflts.noKw hD;obtain ⟨a,vs,ns,rfl,rfl,hobj,hints,hlen⟩:=YcG hn hpre hwl;refine enter_call (fF (call w s₀ s₁ mg mb fa o pm cd doc a vs ns G Y ho (fd_plain hd) hcd hmg hobj hints hlen hg) fun r s' hq=>?_);obtain ⟨rfl,h2,h3,h4⟩:=hq;exact ⟨.inl ⟨.bool true,.bool true,[],rfl,fun _=>rfl,.bool true,YcH l _,fun _=>⟨List.Pairwise.nil,fun _ hm=>(nomatch hm)⟩⟩,h2,h3,h4⟩
section
variable {prog:Ρ} {w:Ω} {A:η} {E:Α->Β->Prop} {s:Β} {K:Frag}
def ledger (h:Heap) (L d:Addr):List (Addr×Obj):=(a9 h.objs.size).filterMap fun a=>if a=L\/a=d then none else (h.get? a).map fun o=>(a,o)
end
end J4
namespace L2
open PySem PySem.Spec PyProof.Rows
theorem Qq:∀ {vs:List Α} {ns:List Int},IntsAre vs ns->Yz (ns.map V.int) vs
 | _,_,.nil => .nil
 | _,_,.cons n t h => .cons ⟨t,rfl⟩ (Qq h)
def Y8 (s:Stmt) (j:Nat):Stmt:=match s with
 | .ClassDef _ _ _ body _ _ _ _ _ _ _=>body.getD j (.Pass ⟨0,0,0,0⟩)
 | _ => .Pass ⟨0,0,0,0⟩
def Y9 (s:Stmt):Arguments:=match s with
 | .FunctionDef _ a _ _ _ _ _ _ _ _=>a
 | _=>{ posonlyargs:=[],args:=[],vararg:=none,kwonlyargs:=[],kw_defaults:=[],kwarg:=none,defaults:=[] }
def YV (s:Stmt):List Stmt:=match s with
 | .FunctionDef _ _ b _ _ _ _ _ _ _=>b
 | _=>[]
def Yi (s:Stmt):Scope:=match s with
 | .FunctionDef _ _ _ _ _ _ sc _ _ _=>sc
 | _=>{ kind := .function,names:=[],isGenerator:=false,isCoroutine:=false }
abbrev dG:gk:=fun _ _ _ _ _ _=>False
abbrev E0:XK:=fun _ _ _=>False
theorem W3 {X:Cx}:X1 dG X E0:=fun _ _ _ _ _ _ _ h=>h.elim
structure gU (K:Ι) (x qual:Str) (st:Stmt) (f:Addr) (fd:ba):Prop where
 ex:∃ (oc:Α) (od:Option Addr) (kV doc pm:Α) (an:Option Addr) (cdv ct:Α) (osl:Array (Option Α)),
  fd=cr x qual (Y9 st) (YV st) (Yi st) .none kV doc pm an cdv ct/\K.lookup f=some ⟨oc,od,.func fd,osl⟩/\gf K cdv qual=true
 kp:dP K (.ref f)=true
section
variable {P:Ρ} {w:Ω} {K:Ι} {mg:Str->Option Α} {base:Heap}
theorem gU.ok {x qual:Str} {st:Stmt} {f:Addr} {fd:ba} {N ps:List Str} {k:Nat} {sp:Sp} (F:gU K x qual st f fd) (S:ak N ps (Yi st)) (len:∀ vs H Q E,sp vs H Q E->vs.length=ps.length)
  (hbody:∀ (cdv:Α) (A:η) (outer:List Env) (s:Β) (H:Hp) (vs:List V) (Q:VK) (E:XK),aO k (A.deeper (jn qual (Yi st) s.heap.objs.size f cdv))->sp vs H Q E ->
   ∃ t,eH (Wo dG P w K mg base N qual (Yi st) f cdv A outer s H E).eZ (YV st) t/\t { nx:=fun _ H'=>Q .non H',rt:=Q } (Xw N vs) H):bG P w K mg base dG (k+1) f fd ps sp:=by
 obtain ⟨oc,od,kV,doc,pm,an,cdv,ct,osl,rfl,lk,hcd⟩:=F.ex;refine zq lk hcd S len fun A outer s H vs Q E hr hsp=>?_
 obtain ⟨t,h,q⟩:=hbody cdv A outer s H vs Q E hr hsp;exact ⟨t,h.eZ,q⟩
theorem gU.binds {x qual:Str} {st:Stmt} {f:Addr} {fd:ba} {ps:List Str} (F:gU K x qual st f fd)
  (h:∀ (kV doc pm:Α) (an:Option Addr) (cdv ct:Α) (us:List Α),us.length=ps.length->gi (cr x qual (Y9 st) (YV st) (Yi st) .none kV doc pm an cdv ct) ⟨us,[]⟩=pure (ps.zip us)):Xh K fd ps []:=by
 obtain ⟨oc,od,kV,doc,pm,an,cdv,ct,osl,rfl,lk,hcd⟩:=F.ex;exact .all (h kV doc pm an cdv ct)
theorem WR {x qual:Str} {st:Stmt} {f:Addr} {oc:Α} {od an:Option Addr} {osl:Array (Option Α)} {kV doc pm cdv ct:Α} (l:K.lookup f=some ⟨oc,od,.func (cr x qual (Y9 st) (YV st) (Yi st) .none kV doc pm an cdv ct),osl⟩)
  (c:gf K cdv qual=true) (k:dP K (.ref f)=true):gU K x qual st f (cr x qual (Y9 st) (YV st) (Yi st) .none kV doc pm an cdv ct):=⟨⟨oc,od,kV,doc,pm,an,cdv,ct,osl,rfl,l,c⟩,k⟩
end
section
variable {X:Cx}
theorem pv (i:Nat) {x:Str} {pos:Pos} (hN:X.N[i]?=some x:=by rfl) (hv:qX X.env.scope x:=by first | exact .inl rfl | exact .inr (.inl rfl) | exact .inr (.inr rfl)) (hd:(x==("__debug__":Str))=false:=by decide)
  (hcd:(x==("__classdict__":Str))=false:=by decide):PE X (.Name x pos) (Vs i):=QU hN hv hd hcd
end
theorem zG {A B:Prop} (h:B):if false=true then A else B:=by
 rw [if_neg θ];exact h
theorem VQ {A B:Prop} (h:A):if true=true then A else B:=by
 rw [if_pos rfl];exact h
theorem UX {c A B:Prop} [Decidable c] (h1:c->A) (h2:¬ c->B):if c then A else B:=by
 by_cases h:c
 ·rw [if_pos h]
  exact h1 h
 ·rw [if_neg h]
  exact h2 h
def Yg (H H':Hp):Prop:=∀ b o,H b=some o->H' b=some o
theorem Yg.refl (H:Hp):Yg H H:=fun _ _ h=>h
theorem Yg.trans {H H1 H2:Hp} (a:Yg H H1) (b:Yg H1 H2):Yg H H2:=fun c o h=>b c o (a c o h)
theorem Yg.free {H H':Hp} (e:Yg H H') {l:Addr} (h:H' l=Option.none):H l=Option.none:=by
 cases q:H l with
 | none=>rfl
 | some o =>
  rw [e l o q] at h
  cases h
theorem Yg.seq {K:Ι} {H H':Hp} {a:Addr} {xs:List V} (e:Yg H H') (h:aA K H a xs):aA K H' a xs:=by
 rcases h with (h | ⟨o,h⟩) | h
 ·exact .inl (.inl (e _ _ h))
 ·exact .inl (.inr ⟨o,e _ _ h⟩)
 ·exact .inr h
section
variable {κ:Type} [DecidableEq κ]
def zH (kvs:List (κ×V)) (k:κ):Option V:=(kvs.find? fun kv=>decide (kv.1=k)).map (·.2)
def putK (kvs:List (κ×V)) (k:κ) (v:V):List (κ×V) :=
 if (kvs.any fun kv=>decide (kv.1=k))=true then kvs.map (fun kv=>if kv.1=k then (kv.1,v) else kv) else kvs++[(k,v)]
end
theorem J5 {P:Ρ} {w:Ω} {k:Key} {u:Α} (r:YH (kV k) u):(XD P w).is k u=true:=by
 cases k with
 | inl i=>obtain ⟨t,e⟩:=(show ∃ t,u=k9 i t from r);subst e;exact Tq P w i t
 | inr x=>obtain ⟨t,e⟩:=(show ∃ t,u=k7 x t from r);subst e;exact Tr P w x t
def uN (H:Hp) (a:Addr) (y:V) (r:Option V):Prop :=
 (∃ kvs k,Rd H a (.dK kvs)/\y=kV k/\r=zH kvs k)\/∃ kvs k b,Rd H a (.dT kvs)/\y = .ref b/\H b=some (.tup (k.map kV))/\r=zH kvs k
def RM (H:Hp) (a:Addr) (y v:V) (H':Hp):Prop :=
 (∃ kvs k,H a=some (.dK kvs)/\y=kV k/\kvs.length<sizeLine/\H'=upd H a (.dK (putK kvs k v))) \/
 ∃ kvs k b,H a=some (.dT kvs)/\y = .ref b/\H b=some (.tup (k.map kV))/\kvs.length<sizeLine/\H'=upd H a (.dT (putK kvs k v))
section
variable {X:Cx} {pins:List (Addr×Obj)} {σ:St} {H:Hp} {s:Β} {a:Addr} {y v:V} {u r:Α} {o:Option V} {A:η} {E:Α->Β->Prop}
theorem Inv.big (I:Inv X pins σ H s):eW<s.heap.objs.size:=by
 have h:aw<s.heap.objs.size:=(I.mod.glob.keeps I.bk).lt;exact Nat.lt_trans (by decide) h
theorem Yfg {h':Heap} {t':Nat} {ob:HO} (I:Inv X pins σ H s) (mu:qW (H a)) (hs:cy a s.heap h') (he:∃ q,h'.get? a=some q) (new:YO X.prog X.w (upd H a ob) h' a ob) :
  Inv X pins σ (upd H a ob) { s with heap:=h',toks:=t' } :=
 I.write (x:=a) (e:=a) mu (.inl rfl) (fun b q hb z=>(hs.2 b hb).trans z) he new
end
def zJ (i:Expr):Prop:=∀ ov iv,subscripted i false ov iv=operate [ov,iv] (j2 ov iv)
theorem Yfh {prog:Ρ} {w:Ω} {A:η} {E:Α->Β->Prop} {s:Β} {env:Env} {value slice:Expr} {pos:Pos} {T id:String} {Q:Α->Β->Prop}
  (hl:kH (.type T) "__getitem__"=pure (some (.builtin id))) (hs:zJ slice)
  (h:Μ (Ξ prog w) A (eval value env) (fun o s₁=>Μ (Ξ prog w) A (eval slice env) (fun i s₂=>s₂.TypeIs o T/\Μ (Ξ prog w) A (j2 o i) Q E s₂) E s₁) E s) :
  Μ (Ξ prog w) A (eval (.Subscript value slice pos) env) Q E s:=by
 refine kK (aa h (fun o s₁ h₁=>aa h₁ (fun i s₂ h₂=>?_) fun _ _ x=>x) fun _ _ x=>x);obtain ⟨hT,h₂⟩:=h₂;unfold subscriptTail;refine Δ ?_;rw [getitemInPython_of_ne hT.not_modules];refine Δ (fg hT hl ?_);have fin:Μ (Ξ prog w) A (subscripted slice false o i) (fun r s₃=>Μ (Ξ prog w) A (letTemporaryGo value o r >>= fun _=>pure r) Q E s₃) E s₂:=by
  rw [hs o i];exact wpAny_operating (aa h₂ (fun r s₃ h₃=>Δ (wpAny_letTemporaryGo (Ο h₃))) fun _ _ x=>x)
 first
  | exact Ο (Δ fin)
  | exact Δ (Ο (Δ fin))
  | exact Δ fin
def J6 (td ty:TE):TE:=fun σ H Q=>td σ H fun x H1=>ty σ H1 fun y H2=>∃ a v,x = .ref a/\uN H2 a y (some v)/\Q v H2
def J7 (td ty tv:TE):TS:=fun D σ H=>tv σ H fun v H1=>td σ H1 fun x H2=>ty σ H2 fun y H3=>∃ a H4,x = .ref a/\RM H3 a y v H4/\D.nx σ H4
theorem YdJ {P:Ρ} {w:Ω} {H:Hp} (h:Heap) (hb:eW<h.objs.size):YO P w H (h.push { cls := .type "dict",data := .dict #[] }) h.objs.size (.dK []) :=
 ⟨ar _,beq_eq_false_iff_ne.mpr (ψ (ρ hb)),[],.nil,Heap.DictOf.new h⟩
def J8:TE:=fun _ H Q=>∀ p,H p=none->Q (.ref p) (upd H p (.dK []))
def Ka:TE:=fun _ H Q=>∀ p,H p=none->Q (.ref p) (upd H p (.dT []))
section
variable {X:Cx} {pos:Pos}
theorem YdK:PE X (.Dict [] [] pos) J8:=fun pins s σ H Q I h =>
 wpAny_Dict_empty ⟨.ref s.heap.objs.size,_,I.laid (a:=s.heap.objs.size) (o := .dK []) (t':=s.toks) (fun _ _ q=>Ζ _ q) (Ν _) (YdJ s.heap I.big),rfl,h _ (I.hok.fresh (Ν _))⟩
end
theorem WS (env:Env):∀ (names:List (Str×ik)) (cs:List (Str×Addr)),(∀ x,(x,ag)∈names->∃ c,env.cells.lookup x=some c) ->
  ∃ cl,(forIn names cs fun (p:Str×ik) (cs:List (Str×Addr))=>(if (p.2==ag)=true then (do let c <- cellOf env p.1;pure (fm ((p.1,c)::cs))) else pure (fm cs):Sem (ForInStep (List (Str×Addr)))))=pure cl /\
   (∀ x c,cl.lookup x=some c->env.cells.lookup x=some c\/cs.lookup x=some c)/\(∀ x,(x,ag)∈names->∃ c,cl.lookup x=some c)/\(∀ x c,cs.lookup x=some c->∃ d,cl.lookup x=some d)
 | [],cs,_=>⟨cs,by simp,fun _ _ h => .inr h,(fun _ h=>nomatch h),fun x c h=>⟨c,h⟩⟩
 | (n,k)::r,cs,h=>by
  by_cases hk:k=ag
  ·subst hk
   obtain ⟨c,hc⟩:=h n (ee ..);obtain ⟨cl,e,a,b,d⟩:=WS env r ((n,c)::cs) (fun x hx=>h x (bb _ hx));have hcell:cellOf env n=pure c:=by unfold cellOf;rw [hc]
   refine ⟨cl,?_,fun x c' hx=>?_,fun x hx=>?_,fun x c' hx=>?_⟩
   ·rw [List.forIn_cons]
    simp only [beq_self_eq_true,if_true,hcell,pure_bind];exact e
   ·rcases a x c' hx with q | q
    ·exact .inl q
    ·rw [ι] at q
     by_cases hxn:(x==n)=true
     ·rw [hxn] at q
      have hx':x=n:=by simpa using hxn
      subst hx';have:c=c':=by simpa using q
      subst this;exact .inl hc
     ·rw [iS.mpr hxn] at q
      exact .inr q
   ·rcases Ψ.mp hx with q | q
    ·have hx':x=n:=congrArg Prod.fst q
     subst hx';exact d x c (by rw [ι];simp)
    ·exact b x q
   ·have:∃ d',((n,c)::cs).lookup x=some d':=by
     rw [ι];by_cases hxn:(x==n)=true
     ·rw [hxn];exact ⟨c,rfl⟩
     ·rw [iS.mpr hxn];exact ⟨c',hx⟩
    obtain ⟨d',hd'⟩:=this;exact d x d' hd'
  ·obtain ⟨cl,e,a,b,d⟩:=WS env r cs (fun x hx=>h x (bb _ hx))
   have hkf:(k==ag)=false:=by simpa using hk
   refine ⟨cl,?_,a,fun x hx=>?_,d⟩
   ·rw [List.forIn_cons]
    simp only [hkf,eh,if_false,pure_bind];exact e
   ·rcases Ψ.mp hx with q | q
    ·exact absurd (congrArg Prod.snd q).symm hk
    ·exact b x q
theorem UF (env:Env) (scope:da) (h:∀ x,(x,ag)∈scope.names->∃ c,env.cells.lookup x=some c) :
  ∃ cl,jp scope env=pure cl/\(∀ x c,cl.lookup x=some c->env.cells.lookup x=some c)/\(∀ x,(x,ag)∈scope.names->∃ c,cl.lookup x=some c):=by
 obtain ⟨cl,e,a,b,_⟩:=WS env scope.names [] h;refine ⟨cl,?_,fun x c hx=>(a x c hx).elim id (fun z=>by simp at z),b⟩;unfold jp;simp only [bind_pure];exact e
def dW (X:Cx) (scope:da) (N':List Str) (cl:List (Str×Addr)) (C:Addr) (s₀:Β) (H₀:Hp) (fp:List Addr) (pn:List (Addr×Obj)):Cx :=
 { X with N:=N',s₀:=s₀,H₀:=H₀,env:=i7 scope cl C X.env,outer:=X.stack,ex:=fp,fn:=fun _=>false,pn:=pn,xe:=fun _ _=>False }
inductive iC (X:Cx) (scope:da):List (Option Nat)->List Str->Prop
 | nil:iC X scope [] []
 | own {x src N'}:iC X scope src N'->iC X scope (none::src) (x::N')
 | cap {x i src N'}:X.N[i]?=some x->scope.names.lookup x=some ag->(X.env.scope.names.lookup x=some eT\/X.env.scope.names.lookup x=some ag)->iC X scope src N'->iC X scope (some i::src) (x::N')
def YJ (src:List (Option Nat)) (σ:St):St:=src.map fun o=>match o with | none=>none | some i=>σ.getD i none
theorem iC.length {X:Cx} {scope:da}:∀ {src:List (Option Nat)} {N':List Str},iC X scope src N'->src.length=N'.length
 | _,_,.nil=>rfl
 | _,_,.own h=>congrArg (·+1) h.length
 | _,_,.cap _ _ _ h=>congrArg (·+1) h.length
theorem iC.get {X:Cx} {scope:da} {σ:St}:∀ {src:List (Option Nat)} {N':List Str},iC X scope src N'->∀ (j:Nat) (x:Str) (v:V),N'[j]?=some x->(YJ src σ)[j]?=some (some v) ->
  ∃ i:Nat,X.N[i]?=some x/\σ[i]?=some (some v)/\scope.names.lookup x=some ag/\(X.env.scope.names.lookup x=some eT\/X.env.scope.names.lookup x=some ag)
 | _,_,.nil,j,x,v,h,_=>by simp at h
 | _,_,.own h,0,x,v,_,e=>by simp [YJ] at e
 | _,_,.own h,j+1,x,v,e1,e2=>h.get j x v (by simpa using e1) (by simpa [YJ] using e2)
 | _,_,.cap (x:=y) (i:=i) hN hf hk h,0,x,v,e1,e2=>by
  have ex:y=x:=by simpa using e1
  subst ex;refine ⟨i,hN,?_,hf,hk⟩;simp only [YJ,aS,List.getElem?_cons_zero,Option.some.injEq] at e2;rw [eu] at e2
  cases q:σ[i]? with
  | none=>rw [q] at e2;simp at e2
  | some o=>rw [q] at e2;simp at e2;rw [e2]
 | _,_,.cap hN hf hk h,j+1,x,v,e1,e2=>h.get j x v (by simpa using e1) (by simpa [YJ] using e2)
theorem Vh (env:Env) (x:Str):∀ {names:List (Str×ik)},
  (names.map fun (n,k)=>if (k==ag&&env.scope.kind == .function&&env.kindOf n==some .cell) then (n,eT) else (n,k)).lookup x =
   (names.lookup x).map fun k=>if (k==ag&&env.scope.kind == .function&&env.kindOf x==some .cell) then eT else k
 | []=>rfl
 | (n,k)::r=>by
  have ih:=@Vh env x r;rw [aS];dsimp only;by_cases hx:(x==n)=true
  ·have e:x=n:=by simpa using hx
   subst e;by_cases hc:(k==ag&&env.scope.kind == .function&&env.kindOf x==some .cell)=true
   ·rw [if_pos hc,ι,ι,hx]
    simp only [jI];rw [if_pos hc]
   ·rw [if_neg hc,ι,ι,hx]
    simp only [jI];rw [if_neg hc]
  ·have hx':=iS.mpr hx
   by_cases hc:(k==ag&&env.scope.kind == .function&&env.kindOf n==some .cell)=true
   ·rw [if_pos hc];simp only [ι,hx'];exact ih
   ·rw [if_neg hc];simp only [ι,hx'];exact ih
theorem W4 {names:List (Str×ik)} {x:Str} (h:names.lookup x=some ag):(x,ag)∈names:=b9 h
section
variable {X:Cx}
theorem YdL {scope:da} {N':List Str} {src:List (Option Nat)} {cl:List (Str×Addr)} {pins:List (Addr×Obj)} {σ:St} {H:Hp} {s s':Β} {h':Heap} {tk:Nat} {fp:List Addr} {m:Str->Option Α}
  (hk:scope.kind = .function) (hcell:∀ y∈scope.names,y.2 ≠ .cell) (hcap:iC X scope src N')
  (a:∀ x c,cl.lookup x=some c->X.env.cells.lookup x=some c) (b:∀ x,(x,ag)∈scope.names->∃ c,cl.lookup x=some c)
  (I:Inv X pins σ H s) (hf:∀ b∈fp,We X pins H b) (hfl:∀ b∈fp,b<s.heap.objs.size) (es':s'={ s with heap:=h',toks:=tk })
  (keep:∀ b o,s.heap.get? b=some o->h'.get? b=some o) (hn:h'.Ns s.heap.objs.size m) :
  Inv (dW X scope N' cl s.heap.objs.size s H fp (X.pn++pins)) [] (YJ src σ) H s':=by
 subst es';have kindOf:∀ x,(i7 scope cl s.heap.objs.size X.env).kindOf x=(scope.names.lookup x).map fun k=>if (k==ag&&X.env.scope.kind == .function&&X.env.kindOf x==some .cell) then eT else k:=fun x=>Vh X.env x
 have freeOf:∀ x,((i7 scope cl s.heap.objs.size X.env).kindOf x=some .cell\/(i7 scope cl s.heap.objs.size X.env).kindOf x=some .free)->scope.names.lookup x=some .free:=fun x h=>by
  rw [kindOf] at h
  cases q:scope.names.lookup x with
  | none=>rw [q] at h;simp at h
  | some k =>
   rw [q] at h
   by_cases hkf:k=ag
   ·rw [hkf]
   ·have RN:(k==ag)=false:=by simpa using hkf
    simp only [jI,RN,Bool.false_and,eh,if_false] at h;rcases h with h | h
    ·exact absurd (Ε h) (hcell _ (b9 q))
    ·exact absurd (Ε h) hkf
 refine ⟨⟨I.ok.mod,hk,I.ok.glob,I.ok.blt,Ν _,fun x y c h1 h2=>I.ok.inj x y c (a x c h1) (a y c h2),fun x hx=>b x (W4 (freeOf x hx)),(fun x c z _=>nomatch z),I.ok.hd,I.ok.frames,.inl rfl,fun b' hb=>?_,I.bs,ap I.ok.gR I.sz,fun b' o e hb=>?_,fun b' hb z=>?_,I.stack,I.gb⟩,
  rfl,I.bare,Un.kept keep,⟨m,hn,fun j x v h1 h2 h3=>?_⟩,fun x c h=>?_,I.hok.fresh (Ν _),fun x c h=>I.aZ x c (a x c h),fun p hp=>?_,I.hok.kept keep,?_⟩
 ·obtain ⟨f0,f1,f2,f3,f4,f5⟩:=hf b' hb
  exact ⟨ρ (hfl b' hb),fun x c h=>f4 x c (a x c h)⟩
 ·obtain ⟨f0,f1,f2,f3,f4,f5⟩:=hf b' hb
  rcases f3 with z | z
  ·exact I.ok.jL b' o e z
  ·exact absurd (χ (Φ e) (ap I.ok.gR z)) (dC _)
 ·obtain ⟨f0,f1,f2,f3,f4,f5⟩:=hf b' hb
  rcases Ψ.mp (I.jh b' z) with e | e
  ·exact f1 e
  ·exact f2 e
 ·obtain ⟨i,e1,e2,e3,e4⟩:=hcap.get j x v h1 h2
  obtain ⟨m0,hn0,hl⟩:=I.loc;obtain ⟨u,r,l⟩:=hl i x v e1 e2 (by rcases e4 with e4 | e4;exact .inr (.inl e4);exact .inr (.inr e4));refine ⟨u,r,?_⟩;rcases l with ⟨l,_⟩ | ⟨k,c,e,z⟩
  ·have l':X.env.scope.names.lookup x=some ik.local:=l
   rcases e4 with e4 | e4<;>(rw [e4] at l';cases l')
  ·refine .inr ⟨?_,?_⟩
   ·show (i7 scope cl s.heap.objs.size X.env).kindOf x=some .cell\/(i7 scope cl s.heap.objs.size X.env).kindOf x=some .free
    rw [kindOf,e3];simp only [jI]
    split
    ·exact .inl rfl
    ·exact .inr rfl
   ·obtain ⟨c',hc'⟩:=b x (W4 e3)
    have:=a x c' hc';rw [e] at this
    cases this
    obtain ⟨o,ho,hd⟩:=z;exact ⟨c,hc',o,keep _ _ ho,hd⟩
 ·obtain ⟨v,o,ho,hd⟩:=I.cell x c (a x c h)
  exact ⟨v,o,keep _ _ ho,hd⟩
 ·have hp':p∈X.pn++pins:=by simpa [dW] using hp
  obtain ⟨e,n,ne,nf,d⟩:=I.pin p hp';refine ⟨keep _ _ e,n,ρ (Φ e),fun z=>?_,d⟩;rcases Ψ.mp (I.jh p.1 z) with q | q
  ·exact ne q
  ·exact nf q
 ·show (YJ src σ).length=N'.length
  rw [<- hcap.length];simp [YJ]
end
section
variable {prog:Ρ} {w:Ω} {A:η} {R:Result->Β->Prop} {s:Β}
theorem YbL {elt tg iter:Expr} {ifs:List Expr} {scope:da} {pos:Pos} {it acc:Α} {env:Env} (J:Nat->Β->Prop)
  (turn:∀ n s,J n s->Μ (Ξ prog w) A (pyNext it) (fun r s₁=>match r with
    | none=>R (.ok .next) s₁
    | some v=>Μ (Ξ prog w) A (jv tg it v) (fun _ z₁=>Μ (Ξ prog w) A (assign tg env v) (fun _ s₂ =>
      Μ (Ξ prog w) A (forIn ifs true fun c r=>if r=true then do let ok <- isTrue c env (eval c env);pure (fm ok) else pure (fm r))
       (fun ok s₃=>if ok=true then Μ (Ξ prog w) A (eval elt env) (fun x s₄=>Μ (Ξ prog w) A (call (.builtin "list.append") [acc,x]) (fun _ s₅=>∃ m,m<n/\J m s₅) (fun _ _=>False) s₄) (notedBy (Ξ prog w) A env fun e s'=>R (.error e) s') s₃
        else ∃ m,m<n/\J m s₃) (fun _ _=>False) s₂) (fun _ _=>False) z₁) (fun _ _=>False) s₁) (fun _ _=>False) s)
  (n:Nat) (h:J n s):ei (Ξ prog w) A (.compLoop (.ListComp elt [⟨tg,iter,ifs,0⟩] scope pos) 0 it acc env) R s:=by
 refine codeAny_loop rfl J (fun n s hJ=>?_) n h
 show Μ _ A (Sem.onRaise (compTurn (.ListComp elt [⟨tg,iter,ifs,0⟩] scope pos) 0 it acc env) (fun x=>do noteFrame x env;theTreesLotGoes x)) _ _ s
 refine wpAny_noted ?_;rw [compTurn_list];have no:∀ {E:Α->Β->Prop},∀ (e:Α) (s':Β),False->E e s':=fun _ _ f=>f.elim
 refine Δ (eR (Δ (aa (turn n s hJ) (fun r s₁ h₁=>?_) no)))
 cases r with
 | none=>exact Ο h₁
 | some v =>
  refine Δ (aa h₁ (fun _ z₁ hz=>?_) no);refine Δ (aa hz (fun _ s₂ h₂=>Δ (aa h₂ (fun ok s₃ h₃=>?_) no)) no)
  cases ok with
  | false=>exact Ο ⟨rfl,h₃⟩
  | true =>
   exact Δ (Δ (aa h₃ (fun x s₄ h₄=>Δ (aa h₄ (fun _ s₅ h₅=>Ο (Ο ⟨rfl,h₅⟩)) no)) fun _ _ z=>z))
end
def rA (X:Cx) (ifs:List Expr) (t:TT):Prop :=
 ∀ (pins:List (Addr×Obj)) (s:Β) (σ:St) (H:Hp) (Q:Bool->Hp->Prop),Inv X pins σ H s->t σ H Q ->
  Μ (Ξ X.prog X.w) X.A (forIn ifs true fun c r=>if r=true then do let ok <- isTrue c X.env (eval c X.env);pure (fm ok) else pure (fm r)) (TP X pins σ Q) X.xe s
def Wj:TT:=fun _ H Q=>Q true H
theorem Xp {X:Cx}:rA X [] Wj:=fun _ _ _ H _ I h=>wpAny_tests_nil ⟨H,I,h⟩
theorem Kc {X:Cx} {c:Expr} {t:TT} (h:PT X c t):rA X [c] t:=fun pins s σ H Q I q=>wpAny_tests_one (h pins s σ H Q I q)
def LC (src:List (Option Nat)) (J:It) (g:TG) (tt:TT) (te:TE) (σ:St) (H1:Hp) (Q:VK) (D:Addr):Prop:=∃ W:Nat->Nat->List V->St->Hp->Prop,(∃ m,W 0 m [] (YJ src σ) (upd H1 D (.lst []))) /\
 ∀ i m ys σ' H2,W i m ys σ' H2->H2 D=some (.lst ys)/\((J.stop i H2/\Q (.ref D) H2)\/(J.go i H2/\∃ N:List V->St->Hp->Prop,(∀ ys' σ3 H3,N ys' σ3 H3->∃ m',m'<m/\W (i+1) m' ys' σ3 H3)/\∀ x H3,J.lu i H2 x H3->g x σ' H3 fun σ2 H4=>tt σ2 H4 fun b H5 =>
  if b=true then te σ2 H5 fun y H6=>H6 D=some (.lst ys)/\ys.length<sizeLine/\N (ys++[y]) σ2 (upd H6 D (.lst (ys++[y])))
  else N ys σ2 H5))
def je (src:List (Option Nat)) (wi:TI) (g:TG) (tt:TT) (te:TE):TE:=fun σ H Q=>wi σ H fun J H1=>∀ D,H1 D=none->LC src J g tt te σ H1 Q D
section
variable {X:Cx}
theorem Q5 {elt tg iter:Expr} {ifs:List Expr} {scope:da} {pos:Pos} {src:List (Option Nat)} {N':List Str} {g:TG} {tt:TT} {te:TE} {cl:List (Str×Addr)} {pins:List (Addr×Obj)} {σ:St} {Q:VK} {itv:Α} {s2:Β} {Po:Α->Addr->Result->Β->Prop} {Z:Addr->Β->Hp->List Addr->List (Addr×Obj)->Α->Β->Prop}
  (hcap:iC X scope src N') (hc:X.calm=true) (hg:∀ C s₀ H₀ fp pn,PG (dW X scope N' cl C s₀ H₀ fp pn) tg g) (ht:∀ C s₀ H₀ fp pn,rA (dW X scope N' cl C s₀ H₀ fp pn) ifs tt)
  (he:∀ C s₀ H₀ fp pn,PE ((dW X scope N' cl C s₀ H₀ fp pn).wish (Z C s₀ H₀ fp pn)) elt te) (hk:scope.kind = .function) (hcell:∀ y∈scope.names,y.2 ≠ .cell) (a:∀ x c,cl.lookup x=some c->X.env.cells.lookup x=some c) (b:∀ x,(x,ag)∈scope.names->∃ c,cl.lookup x=some c)
  (h2:PIE X pins σ tg (fun J H1=>∀ D,H1 D=none->LC src J g tt te σ H1 Q D) itv s2)
  (done:∀ (D C:Addr) (s6:Β) (H5:Hp),(∀ h',cy C s6.heap h'->Inv X pins σ H5 { s6 with heap:=h' })->(∃ m,s6.heap.Ns C m)->H5 C=none->(∀ {H':Hp},H' C=none->We X pins H' C)->Q (.ref D) H5->Po (.ref D) C (.ok .next) s6)
  (gone:∀ (D:Addr) (s3:Β) (H3:Hp) (fp:List Addr),Inv X pins σ H3 s3->(∀ {H':Hp} {s':Β} {σ':St} {iR:List (Addr×Obj)},Inv (dW X scope N' cl s3.heap.objs.size s3 H3 fp (X.pn++pins)) iR σ' H' s'->∀ h',cy s3.heap.objs.size s'.heap h'->Inv X pins σ H' { s' with heap:=h' }) ->
   ∀ e s',Z s3.heap.objs.size s3 H3 fp (X.pn++pins) e s'->notedBy (Ξ X.prog X.w) X.A (i7 scope cl s3.heap.objs.size X.env) (fun e s'=>Po (.ref D) s3.heap.objs.size (.error e) s') e s') :
  Μ (Ξ X.prog X.w) X.A (newList []) (fun acc s₃=>Μ (Ξ X.prog X.w) X.A (newFunctionEnv scope X.env.globals cl [] X.env.qual none ck (some X.env)) (fun cenv s₄ =>
   ei (Ξ X.prog X.w) X.A (.compStart (.ListComp elt [⟨tg,iter,ifs,0⟩] scope pos) 0 itv acc { cenv with scope:=relabel scope X.env }) (Po acc cenv.locals) s₄) X.xe s₃) X.xe s2:=by
 obtain ⟨it,fp,tn,J,H2,e,I2,T,st2,f2,q⟩:=h2;subst e;have hD:H2 s2.heap.objs.size=none:=I2.hok.fresh (Ν _);obtain ⟨W,⟨m0,w0⟩,turn⟩:=q s2.heap.objs.size hD;have I3:=I2.zF (t':=s2.toks) (ys:=[]) (its:=[]) .nil (ar _);have fl2:∀ b∈fp,b<s2.heap.objs.size:=fun b hb=>by
  obtain ⟨o,e,_⟩:=T.obj _ _ st2 b hb;exact Φ e
 refine cK ?_;generalize Kd:({ s2 with heap:=s2.heap.push { cls := .type "list",dict:=none,data := .seq ([]:List Α).toArray } }:Β)=s3;have rB:Inv X pins σ (upd H2 s2.heap.objs.size (.lst [])) s3:=Kd▸I3
 have Ik:∀ b o,s2.heap.get? b=some o->s3.heap.get? b=some o:=fun b o e=>by rw [<- Kd];exact Ζ _ e
 have st3:tn 0 s3.heap:=T.keep _ _ _ st2 fun b _ o e=>Ik b o e
 have Ke:∀ b∈fp,b<s3.heap.objs.size:=fun b hb=>by
  obtain ⟨o,e,_⟩:=T.obj _ _ st3 b hb;exact Φ e
 have f3:∀ b∈fp,We X pins (upd H2 s2.heap.objs.size (.lst [])) b:=fun b hb=>⟨by rw [Ye (ρ (fl2 b hb))];exact (f2 b hb).1,(f2 b hb).2⟩
 generalize eD:s2.heap.objs.size=D at *;generalize eH3:upd H2 D (.lst [])=H3 at *;refine gN hcell (by intro y hy;simp at hy) (fun h₁ hns₁ hsb₁=>?_) hk;have qd:∀ b o,s3.heap.get? b=some o->h₁.get? b=some o:=fun b o e=>hsb₁.extBut b o (ρ (Φ e)) (Ζ _ e)
 have I4:=YdL (N':=N') (src:=src) (tk:=s3.toks+([]:List (Str×Α)).length) hk hcell hcap a b rB f3 Ke rfl qd hns₁;have stat:∀ {H':Hp},(∀ b∈fp,H' b=none)->∀ b∈fp,We (dW X scope N' cl s3.heap.objs.size s3 H3 fp (X.pn++pins)) [] H' b:=fun hn b' hb=>by
  obtain ⟨f0,f1,fs,fe,f4,f5⟩:=f3 b' hb;refine ⟨hn b' hb,ρ (Ke b' hb),fun z=>?_,.inl hb,fun x c h=>f4 x c (a x c h),fun p hp=>f5 p (by simpa [dW] using hp)⟩;rcases Ψ.mp (rB.jh b' z) with e | e
  ·exact f1 e
  ·exact fs e
 have fin:∀ {H':Hp} {s':Β} {σ':St} {iR:List (Addr×Obj)},Inv (dW X scope N' cl s3.heap.objs.size s3 H3 fp (X.pn++pins)) iR σ' H' s'->∀ h',cy s3.heap.objs.size s'.heap h'->Inv X pins σ H' { s' with heap:=h' }:=fun {H' s' σ' iR} J' h' sb=>by
  have same:∀ b o,b≠s3.heap.objs.size->s'.heap.get? b=some o->h'.get? b=some o:=fun b o hb e=>sb.extBut b o hb e
  have u:Un (frs X.stack) fp H3 H' s3.heap s'.heap:=J'.base;refine rB.call' (s':={ s' with heap:=h' }) (ch:=fp) J'.os ⟨fun b o e n hb hx=>?_,fun b o e n hb hx=>?_,u.free,fun b o e hx=>?_,u.tups,u.bF,u.cJ⟩ (fun b o e=>?_) J'.bare fun b hb=>?_
  ·exact same b o (ρ (Φ e)) (u.keep b o e n hb hx)
  ·obtain ⟨sl,z⟩:=u.slot b o e n hb hx
   exact ⟨sl,same b _ (ρ (Φ e)) z⟩
  ·obtain ⟨o',z⟩:=u.there b o e hx
   exact ⟨o',same b o' (ρ (Φ e)) z⟩
  ·have nC:∀ c v,H' c=some v->c≠s3.heap.objs.size:=fun c v z q=>by
    have:=J'.free;rw [show (dW X scope N' cl s3.heap.objs.size s3 H3 fp (X.pn++pins)).env.locals=s3.heap.objs.size from rfl,<- q,z] at this
    cases this
   refine (J'.hok b o e).stay (fun c v hc q=>same c v ?_ q) (fun _ q=>q) fun _ _ q=>q
   rcases hc with z | z
   ·rw [z];exact nC b o e
   ·exact nC c _ z
  ·obtain ⟨f0,f1,fs,fe,f4,f5⟩:=f3 b hb
   exact ⟨fe,f1,f4,f5⟩
 have loop:ei (Ξ X.prog X.w) X.A (.compLoop (.ListComp elt [⟨tg,iter,ifs,0⟩] scope pos) 0 (.ref it) (.ref D) (i7 scope cl s3.heap.objs.size X.env))
   (Po (.ref D) s3.heap.objs.size) { s3 with heap:=h₁,toks:=s3.toks+([]:List (Str×Α)).length }:=by
  refine YbL (fun n s'=>∃ i ys σ' H',Inv (dW X scope N' cl s3.heap.objs.size s3 H3 fp (X.pn++pins)) [] σ' H' s'/\tn i s'.heap/\(∀ b∈fp,H' b=none)/\W i n ys σ' H') ?_ m0 ⟨0,[],YJ src σ,H3,I4,T.keep _ _ _ st3 fun b _ o e=>qd b o e,fun b hb=>(f3 b hb).1,w0⟩;rintro n s5 ⟨i,ys,vq,H5,I5,pC,mU,w5⟩;obtain ⟨hDs,stop | go⟩:=turn i n ys vq H5 w5
  ·obtain ⟨stop,qn⟩:=stop
   refine aG (T.done (dW X scope N' cl s3.heap.objs.size s3 H3 fp (X.pn++pins)) rfl rfl rfl hc i [] s5 vq H5 _ I5 (stat mU) pC stop) fun r s6 ⟨hr,I6⟩=>?_
   subst hr;obtain ⟨m,hn,_⟩:=id I6.loc;exact done D _ s6 H5 (fun h' sb=>fin I6 h' sb) ⟨m,hn⟩ I6.free (fun z=>rB.iT (Ν _) z) qn
  ·obtain ⟨go,N,hN,step⟩:=go
   refine aG (T.item (dW X scope N' cl s3.heap.objs.size s3 H3 fp (X.pn++pins)) rfl rfl rfl hc i [] s5 vq H5 _ I5 (stat mU) pC go) fun r s6 ⟨u,hr,h6⟩=>?_
   subst hr;refine aG h6 fun _ s7 ⟨x,H7,I7,r7,y7,zK,fr7⟩=>?_
   have I7':=I7.pinned (stat fr7) (T.obj _ _ zK);have again:∀ {s8:Β} {lC:St} {H8:Hp} {ys':List V},Inv (dW X scope N' cl s3.heap.objs.size s3 H3 fp (X.pn++pins)) ([]++VM fp s7.heap) lC H8 s8->(∃ m',m'<n/\W (i+1) m' ys' lC H8) ->
     ∃ m,m<n/\∃ i ys σ' H',Inv (dW X scope N' cl s3.heap.objs.size s3 H3 fp (X.pn++pins)) [] σ' H' s8/\tn i s8.heap/\(∀ b∈fp,H' b=none)/\W i m ys σ' H':=fun {s8 lC H8 ys'} I8 ⟨m',hm,w8⟩=>by
    refine ⟨m',hm,i+1,ys',lC,H8,I8.gj,T.keep _ _ _ zK fun b hb o e=>(I8.pin (b,o) (ay _ (ay _ (Wg hb e)))).1,fun b hb=>?_,w8⟩;obtain ⟨o,e,d⟩:=T.obj _ _ zK b hb;exact (I8.pin (b,o) (ay _ (ay _ (Wg hb e)))).2.1
   refine aG (hg _ s3 H3 fp _ _ s7 vq H7 x u _ I7' r7 (step x H7 y7)) fun _ s8 ⟨lC,H8,I8,q8⟩=>?_
   refine aG (ht _ s3 H3 fp _ _ s8 lC H8 _ I8 q8) fun ok s9 ⟨H9,I9,q9⟩=>?_
   cases ok with
   | false=>exact again I9 (hN _ _ _ q9)
   | true =>
    rw [if_pos rfl];refine aa (he _ s3 H3 fp _ _ s9 lC H9 _ (I9.wish _) q9) (fun y s10 ⟨yv,pJ,RP,r10,q10⟩=>?_) (gone D s3 H3 fp rB fin);have I10:=RP.dM;obtain ⟨zL,hlen,w10⟩:=q10;refine aG (Xv (X:=dW X scope N' cl s3.heap.objs.size s3 H3 fp (X.pn++pins)) _ s10 lC pJ (.ref D) [yv] (.ref D) [y] (fun _ H'=>H'=upd pJ D (.lst (ys++[yv]))) I10 rfl (.cons r10 .nil) ⟨ys,zL,hlen,rfl⟩) fun _ s11 ⟨_,Kf,I11,_,vA⟩=>?_
    subst vA;exact again I11 (hN _ _ _ w10)
 exact codeAny_compStart_list loop (T.self _ 0 _ _ _ (T.keep _ _ _ st3 fun b _ o e=>qd b o e) loop)
theorem XO {elt tg iter:Expr} {ifs:List Expr} {scope:da} {pos:Pos} {src:List (Option Nat)} {N':List Str} {wi:TI} {g:TG} {tt:TT} {te:TE} (hcap:iC X scope src N') (hc:X.calm=true) (hi:PI X tg iter wi)
  (hg:∀ cl C s₀ H₀ fp pn,PG (dW X scope N' cl C s₀ H₀ fp pn) tg g) (ht:∀ cl C s₀ H₀ fp pn,rA (dW X scope N' cl C s₀ H₀ fp pn) ifs tt) (he:∀ cl C s₀ H₀ fp pn,PE (dW X scope N' cl C s₀ H₀ fp pn) elt te)
  (hfree:∀ x,(x,ag)∈scope.names->X.env.scope.names.lookup x=some eT\/X.env.scope.names.lookup x=some ag)
  (hk:scope.kind = .function) (hcell:∀ y∈scope.names,y.2 ≠ .cell) (hnames:∀ y∈scope.names,y.2 = .local->scope.names.lookup y.1=some .local)
  (hs:∀ x,foldedSetIterable iter X.env x=pure x):PE X (.ListComp elt [⟨tg,iter,ifs,0⟩] scope pos) (je src wi g tt te):=by
 intro pins s σ H Q I h;obtain ⟨cl,hcl,a,b⟩:=UF X.env scope fun x hx=>I.ok.has x (hfree x hx)
 rw [eval_ListComp];refine wpAny_comprehension_free (use:=none) rfl hs hcl hk hnames (aG (hi pins s σ H _ I h) fun v s1 h1=>aG h1 fun itv s2 h2=>?_);exact Q5 (Po:=fun v C=>compPost (Ξ X.prog X.w) X.A X.xe none (EP X pins σ Q) v C) (Z:=fun _ _ _ _ _ _ _=>False) hcap hc (hg cl) (ht cl) (he cl) hk hcell a b h2 (fun D C s6 H5 fi ⟨m,hn⟩ _ _ qn=>⟨m,hn,fun h' sb=>⟨.ref D,H5,fi h' sb,rfl,qn⟩⟩) fun _ _ _ _ _ _ _ _ z=>z.elim
end
section
variable {X:Cx} {tg:Expr}
def XU (J:It) (P:Hp->Prop) (xs:List V):Prop:=∀ H,P H->∀ i,(∀ x,xs[i]?=some x->J.go i H/\∀ y H',J.lu i H y H'->H'=H/\y=x)/\(xs.length<=i->J.stop i H)
theorem YcK {K:Ι} {a:Addr} {xs:List V}:XU (pB K a) (fun H=>aq K H a xs) xs:=fun H hq i=>by
 refine ⟨fun x hx=>⟨⟨xs,x,hq,hx⟩,fun y H' ⟨e1,e2⟩=>⟨e1,?_⟩⟩,fun hi=>⟨xs,hq,hi⟩⟩;have:=e2 xs hq;rw [hx] at this
 exact (Ε this).symm
theorem XV {K:Ι} {a:Addr} {xs:List V}:XU (pA K a) (fun H=>aA K H a xs) xs:=fun H hq i=>by
 refine ⟨fun x hx=>⟨⟨xs,x,hq,hx⟩,fun y H' ⟨e1,e2⟩=>⟨e1,?_⟩⟩,fun hi=>⟨xs,hq,hi⟩⟩;have:=e2 xs hq;rw [hx] at this
 exact (Ε this).symm
theorem YaB {lo:Int} {n:Nat} {P:Hp->Prop}:XU (mR lo n) P ((a9 n).map fun (i:Nat)=>V.int (lo+i)):=fun H hq i=>by
 refine ⟨fun x hx=>?_,fun hi=>by show n<=i;simpa using hi⟩;have hi:i<n:=by
  have:=(Η.mp hx).1;simpa using this
 refine ⟨hi,fun y H' ⟨e1,e2⟩=>⟨e1,?_⟩⟩;rw [Υ,eP hi] at hx
 rw [e2];simpa using hx
theorem XU.imp {J:It} {P P':Hp->Prop} {xs:List V} (h:XU J P xs) (hp:∀ H,P' H->P H):XU J P' xs:=fun H q=>h H (hp H q)
theorem zM {J:It} {P:Hp->Prop} {xs:List V} (hJ:XU J P xs) {src:List (Option Nat)} {g:TG} {tt:TT} {te:TE} {σ:St} {H1:Hp} {Q:VK} {D:Addr} (Pv:Nat->List V->St->Hp->Prop)
  (h0:Pv 0 [] (YJ src σ) (upd H1 D (.lst []))) (hP:∀ i ys σ' H',Pv i ys σ' H'->P H'/\H' D=some (.lst ys))
  (step:∀ i ys σ' H' x,xs[i]?=some x->Pv i ys σ' H'->g x σ' H' fun σ2 H4=>tt σ2 H4 fun b H5=>if b=true then te σ2 H5 fun y H6=>H6 D=some (.lst ys)/\ys.length<sizeLine/\Pv (i+1) (ys++[y]) σ2 (upd H6 D (.lst (ys++[y]))) else Pv (i+1) ys σ2 H5)
  (fin:∀ ys σ' H',Pv xs.length ys σ' H'->Q (.ref D) H') :
  LC src J g tt te σ H1 Q D:=by
 refine ⟨fun i m ys σ' H'=>m=xs.length - i/\i<=xs.length/\Pv i ys σ' H',⟨xs.length,by simp,ar _,h0⟩,?_⟩;rintro i m ys σ' H2 ⟨rfl,hi,p⟩;obtain ⟨hp,hD⟩:=hP i ys σ' H2 p;refine ⟨hD,?_⟩;by_cases hlt:i<xs.length
 ·obtain ⟨go,yl⟩:=(hJ H2 hp i).1 xs[i] (by simp [hlt])
  refine .inr ⟨go,fun ys' σ3 H3=>Pv (i+1) ys' σ3 H3,fun ys' σ3 H3 p'=>⟨xs.length - (i+1),by omega,rfl,hlt,p'⟩,fun x H3 y=>?_⟩;obtain ⟨e1,e2⟩:=yl x H3 y;subst e1 e2;exact step i ys σ' _ _ (by simp [hlt]) p
 ·have e:i=xs.length:=by omega
  subst e;exact .inl ⟨(hJ H2 hp _).2 (Ν _),fin ys σ' H2 p⟩
theorem Yg.aj {H:Hp} {p:Addr} (h:H p=none) (o:HO):Yg H (upd H p o):=fun b u q=>by rw [Ye (Yj q h)];exact q
theorem Yg.cO {H H':Hp} {p:Addr} (h:H p=none) (e:Yg H H') (o:HO):Yg H (upd H' p o):=fun b u q=>by rw [Ye (Yj q h)];exact e b u q
theorem Yg.tup {K:Ι} {H H':Hp} {a:Addr} {xs:List V} (e:Yg H H') (h:aq K H a xs):aq K H' a xs:=by
 rcases h with (h | ⟨o,h⟩) | h
 ·exact .inl (.inl (e _ _ h))
 ·exact .inl (.inr ⟨o,e _ _ h⟩)
 ·exact .inr h
end
section
variable {X:Cx}
def Vu:V->Option Α
 | .ty n=>some (.type n)
 | .ref a=>some (.ref a)
 | _=>none
inductive RQ (K:Ι) (t cv:Α) (Q:Bool->Prop):Prop
 | mk (b:Bool) (h3:γ K t cv=some b) (q:Q b)
inductive IsQ (K:Ι) (H:Hp) (x c:V) (Q:Bool->Prop):Prop
 | mk (cv:Α) (h1:Vu c=some cv) (t:Α) (h2:d7 K H x t) (q:RQ K t cv Q)
def zN (K:Ι):List V->Hp->VK->Prop:=fun xs H Q=>k2 xs fun x c=>IsQ K H x c fun b=>Q (.bl b) H
theorem YL:XC X (.builtin "isinstance") (zN X.K):=by
 intro pins s σ H xs us Q I r h;obtain ⟨x,c,rfl,cv,ec,t,ty,b,e,q⟩:=uh h;obtain ⟨u,w',rfl,ru,jQ⟩:=UA r;have ew:w'=cv:=by
  cases c with
  | ty n=>cases (show w'=fc n from jQ);simpa [Vu] using ec
  | ref a=>cases (show w'=ζ a from jQ);simpa [Vu] using ec
  | _=>simp [Vu] at ec
 subst ew;exact YcC I ru ty e fun tk=>⟨.bl b,H,I.tok tk,rfl,q⟩
end
section
variable {prog:Ρ} {w:Ω} {A:η} {E:Α->Β->Prop} {s:Β}
theorem Ul {it t:Addr} {i:Nat} {items:Array Α} {Q:Α->Β->Prop} (hh:A.handled=none) (hit:s.heap.IsTupleIter it t i) (ht:s.heap.IsTuple t items) (hx:items[i]?=none)
  (hE:∀ h' e,Heap.ExtBut it s.heap h'->(∃ o,h'.get? e=some o/\o.cls = .type "StopIteration")->E (.ref e) { s with heap:=h' }):Μ (Ξ prog w) A (bX (.ref it)) Q E s:=by
 obtain ⟨o,ho,hc,hd⟩:=id hit;obtain ⟨ol,hol,_,nl,hdl⟩:=ht;unfold bX;refine Δ (dE (name:=ah "__next__") hit.typeIs F.slot_tuple_iterator_next (eL F.slot_tuple_iterator_next hit.typeIs F.entry_tuple_iterator_next ?_ (F.args_tuple_iterator_next_1 _)))
 show Μ _ _ (field (.ref it) 0 >>= _) _ _ s
 refine Δ (c8 ho hd (x := .ref t) rfl ?_)
 show Μ _ _ (if (ζ t==ck)=true then _ else _) _ _ s
 rw [if_neg (show ¬ ((ζ t==ck)=true) from θ)]
 show Μ _ _ (field (.ref it) 1 >>= _) _ _ s
 refine Δ (c8 ho hd (x := .int i 0) rfl ?_)
 show Μ _ _ (seqItems? (.ref t) >>= _) _ _ s
 refine Δ (f8 hol hdl ?_);simp only [fA,hx];refine Δ (kG (Δ (wpAny_setField ho hd (by simp) ?_)))
 show Μ _ _ (newExc (.type "StopIteration") [] >>= _) _ _ _
 refine Δ ?_;simp only [newExc,newTuple];refine Δ (cK ?_ (by size_fits));refine Δ (m:=kg _ _) (wpAny_of_eq (a:=ck) (by first | rfl | (simp only [kg];rfl)) ?_);refine cK ?_ (by size_fits);simp only [raiseNew];refine Δ (wpAny_handled ?_)
 first | rw [show A.in1.handled=none from hh] | rw [hh]
 refine Δ (Ο (wpAny_throw ?_));exact hE _ _ (((Heap.SameBut.update ..).extBut.push _).push _) ⟨_,δ _ rfl,rfl⟩
end
abbrev vB (h:Heap) (o1 o2:Obj):Heap:=((h.push o1).push o2)
abbrev vC (h:Heap) (o1 o2:Obj):Heap:=(vB h o1 o2).push { cls := .type "tuple",data := .seq #[.ref h.objs.size,.ref (h.push o1).objs.size] }
abbrev vD (h:Heap) (o1 o2:Obj):Heap:=(vC h o1 o2).push { cls := .type "tuple",data := .seq #[.none,.none] }
abbrev mY (h:Heap) (o1 o2:Obj):Heap:=(vD h o1 o2).push { cls := .type "zip",data := .fields #[.none,.bool false,.bool false,.ref (vB h o1 o2).objs.size,.ref (vC h o1 o2).objs.size] }
def Vi (h:Heap) (v:Α) (o:Obj):Prop:=∀ (prog:Ρ) (w:Ω) (A:η) (E:Α->Β->Prop) (s:Β) (Q:Α->Β->Prop),(∀ b ob,h.get? b=some ob->s.heap.get? b=some ob) ->
 Q (.ref s.heap.objs.size) { s with heap:=s.heap.push o }->Μ (Ξ prog w) A (pyIter v) Q E s
theorem VF {h:Heap} {t:Addr} {items:Array Α} (ht:h.IsTuple t items):Vi h (.ref t) { cls := .type "tuple_iterator",data := .fields #[.ref t,.int 0 0] }:=fun prog w A E s Q k q=>by
 obtain ⟨o,e,r⟩:=ht;exact wpAny_pyIter_tuple (items:=items) ⟨o,k _ _ e,r⟩ q
theorem YbN (v1 v2:Α) (o1 o2:Obj) :
  Meets (Builtin.«zip.__new__» ⟨[.type "zip",v1,v2],[]⟩) (fun _ R s=>Vi s.heap v1 o1/\Vi s.heap v2 o2/\R (.ok (.ret (.ref (vD s.heap o1 o2).objs.size))) { s with heap:=mY s.heap o1 o2 }) :=
 .of_wp fun prog w A R s h=>by
  obtain ⟨hp,g,d,tk,os⟩:=s;obtain ⟨h1,h2,h⟩:=h;have hsub:=sub_zip;have p1:∀ {A':η} {E:Α->Β->Prop} {Q:Α->Β->Prop},Q (.ref hp.objs.size) ⟨hp.push o1,g,d,tk,os⟩->Μ (Ξ prog w) A' (pyIter v1) Q E ⟨hp,g,d,tk,os⟩:=fun q=>h1 prog w _ _ ⟨hp,g,d,tk,os⟩ _ (fun _ _ e=>e) q
  have p2:∀ {A':η} {E:Α->Β->Prop} {Q:Α->Β->Prop},Q (.ref (hp.push o1).objs.size) ⟨(hp.push o1).push o2,g,d,tk,os⟩->Μ (Ξ prog w) A' (pyIter v2) Q E ⟨hp.push o1,g,d,tk,os⟩:=fun q=>h2 prog w _ _ ⟨hp.push o1,g,d,tk,os⟩ _ (fun _ _ e=>Ζ _ e) q
  wp_walk using p1,p2
  exact ⟨_,rfl,h⟩
section
variable {prog:Ρ} {w:Ω} {A:η} {E:Α->Β->Prop} {s:Β}
theorem YcL {v1 v2:Α} {o1 o2:Obj} {Q:Α->Β->Prop} (p1:Vi s.heap v1 o1) (p2:Vi s.heap v2 o2) (f1:o1.isFreed=false) (f2:o2.isFreed=false)
  (h:∀ h',IsZip h' (s.heap.objs.size+4) (s.heap.objs.size+2) (s.heap.objs.size+3) .none->IsPair h' (s.heap.objs.size+2) (.ref s.heap.objs.size) (.ref (s.heap.objs.size+1))->IsPair h' (s.heap.objs.size+3) .none .none ->
   h'.get? s.heap.objs.size=some o1->h'.get? (s.heap.objs.size+1)=some o2->h'.objs.size=s.heap.objs.size+5->(∀ c o,s.heap.get? c=some o->h'.get? c=some o)->Q (.ref (s.heap.objs.size+4)) { s with heap:=h' }) :
  Μ (Ξ prog w) A (call (.type "zip") [v1,v2]) Q E s:=by
 refine callType_new F.called_zip (by decide) (F.typeCall_zip_2 _ _) (F.newCall_zip_2 _ _) (fun obj=>F.args_object_init_3 obj _ _) F.entry_zip_new (YbN v1 v2 o1 o2) ⟨p1,p2,?_⟩;have z1:(s.heap.push o1).objs.size=s.heap.objs.size+1:=dQ ..;have z2:(vB s.heap o1 o2).objs.size=s.heap.objs.size+2:=by rw [dQ,z1]
 have z3:(vC s.heap o1 o2).objs.size=s.heap.objs.size+3:=by rw [dQ,z2]
 have z4:(vD s.heap o1 o2).objs.size=s.heap.objs.size+4:=by rw [dQ,z3]
 have z5:(mY s.heap o1 o2).objs.size=s.heap.objs.size+5:=by rw [dQ,z4]
 have g5:(mY s.heap o1 o2).get? (vD s.heap o1 o2).objs.size=some _:=δ _ rfl;have g4:(mY s.heap o1 o2).get? (vC s.heap o1 o2).objs.size=some _:=Ζ _ (δ _ rfl);have g3:(mY s.heap o1 o2).get? (vB s.heap o1 o2).objs.size=some _:=Ζ _ (Ζ _ (δ _ rfl));have g2:(mY s.heap o1 o2).get? (s.heap.push o1).objs.size=some o2:=Ζ _ (Ζ _ (Ζ _ (δ _ f2)));have g1:(mY s.heap o1 o2).get? s.heap.objs.size=some o1:=Ζ _ (Ζ _ (Ζ _ (Ζ _ (δ _ f1))))
 show _/\_
 rw [z2,z3,z4] at g5
 rw [z1,z2] at g3
 rw [z3] at g4
 rw [z1] at g2
 rw [z4];exact ⟨⟨_,g5,rfl⟩,h _ g5 g3 g4 g1 g2 z5 fun c o x=>Ζ _ (Ζ _ (Ζ _ (Ζ _ (Ζ _ x))))⟩
end
section
variable {X:Cx} {pins:List (Addr×Obj)} {σ:St} {H:Hp} {s:Β} {h':Heap}
theorem Inv.yr {t':Nat} {ch:List Addr} (I:Inv X pins σ H s) (k:∀ b o,b∉ch->s.heap.get? b=some o->h'.get? b=some o) (hf:∀ b∈ch,We X pins H b):Inv X pins σ H { s with heap:=h',toks:=t' }:=by
 have ji:∀ b u,H b=some u->b∉ch:=fun b u e z=>by rw [(hf b z).1] at e;cases e
 refine I.step (g':=s.gens) (d':=s.drawn) (ch:=ch) (fun b hb=>?_) (fun b o _ _ hc e _=>k b o hc e) (fun b o _ _ hc e _=>⟨o.slots,k b o hc e⟩) (fun _ _ _ _ n=>n)
  (fun b o hc e=>⟨o,k b o hc e⟩) (fun _ _ e=>e) (fun _ _ _ e=>e) (fun b ps e=>⟨#[],by rw [e];simp⟩) (fun m hm=>?_) (fun b u e=>?_) I.bare
 ·obtain ⟨f0,f1,f2,f3,f4,f5⟩:=hf b hb
  exact ⟨f3,f1,f4,f5⟩
 ·obtain ⟨o,es,ep,ho,r⟩:=hm
  exact ⟨o,es,ep,k _ o (fun z=>(hf _ z).2.1 rfl) ho,r⟩
 ·refine (I.hok b u e).stay (fun c v hc q=>k c v ?_ q) (fun _ q=>q) fun _ _ q=>q
  rcases hc with z | z
  ·rw [z];exact ji b u e
  ·exact ji c _ z
theorem Inv.pK {t':Nat} {ch:List Addr} {T:Addr} {vs:List V} (I:Inv X pins σ H s) (k:∀ b o,b∉ch->s.heap.get? b=some o->h'.get? b=some o) (hf:∀ b∈ch,We X pins H b) (hT:s.heap.objs.size<=T)
  (new:YO X.prog X.w (upd H T (.tup vs)) h' T (.tup vs)):Inv X pins σ (upd H T (.tup vs)) { s with heap:=h',toks:=t' }:=by
 have hn:H T=none:=I.hok.fresh hT;have ji:∀ b u,H b=some u->b∉ch:=fun b u e z=>by rw [(hf b z).1] at e;cases e
 have nT:∀ b o,s.heap.get? b=some o->b≠T:=fun b o e z=>absurd (Φ e) (by rw [z];exact Nat.not_lt.mpr hT)
 have up:∀ b u,H b=some u->upd H T (.tup vs) b=some u:=fun b u e=>by rw [Ye (Yj e hn)];exact e
 refine I.step (g':=s.gens) (d':=s.drawn) (ch:=ch) (fun b hb=>?_) (fun b o _ _ hc e _=>k b o hc e) (fun b o _ _ hc e _=>⟨o.slots,k b o hc e⟩) (fun b o _ e n=>by rw [Ye (nT b o e)];exact n)
  (fun b o hc e=>⟨o,k b o hc e⟩) (fun b xs e=>up b _ e) (fun b o u e=>up b _ e) (fun b ps e=>⟨#[],by rw [up b _ e];simp⟩) (fun m hm=>?_) (fun b u e=>?_) I.bare
 ·obtain ⟨f0,f1,f2,f3,f4,f5⟩:=hf b hb
  exact ⟨f3,f1,f4,f5⟩
 ·obtain ⟨o,es,ep,ho,r⟩:=hm
  exact ⟨o,es,ep,k _ o (fun z=>(hf _ z).2.1 rfl) ho,r⟩
 ·by_cases hb:b=T
  ·subst hb;rw [Yb] at e;cases e;exact new
  ·rw [Ye hb] at e
   refine (I.hok b u e).stay (fun c v hc q=>k c v ?_ q) (fun c q=>up c _ q) fun c xs q=>up c _ q
   rcases hc with z | z
   ·rw [z];exact ji b u e
   ·exact ji c _ z
end
section
variable {X:Cx} {elts:List Expr} {kk:Nat} {tpos:Pos}
theorem UG {J:It} {P:Hp->Prop} {xs:List V} (hJ:XU J P xs) {src:List (Option Nat)} {g:TG} {te:TE} {σ:St} {H1:Hp} {Q:VK} {D:Addr} (Pv:Nat->List V->St->Hp->Prop)
  (h0:Pv 0 [] (YJ src σ) (upd H1 D (.lst []))) (hP:∀ i ys σ' H',Pv i ys σ' H'->P H'/\H' D=some (.lst ys))
  (mono:∀ x σ H Q Q',(∀ σ' H',Q σ' H'->Q' σ' H')->g x σ H Q->g x σ H Q')
  (step:∀ i ys σ' H' x,xs[i]?=some x->Pv i ys σ' H'->g x σ' H' fun σ2 H4=>te σ2 H4 fun y H6=>H6 D=some (.lst ys)/\ys.length<sizeLine/\Pv (i+1) (ys++[y]) σ2 (upd H6 D (.lst (ys++[y]))))
  (fin:∀ ys σ' H',Pv xs.length ys σ' H'->Q (.ref D) H'):LC src J g Wj te σ H1 Q D :=
 zM hJ Pv h0 hP (fun i ys σ' H' x hx p=>by
  refine mono _ _ _ _ _ ?_ (step i ys σ' H' x hx p);intro σ2 H4 q;unfold Wj;dsimp only;rw [if_pos rfl];exact q) fin
theorem Wk (i:Nat):∀ x σ H Q Q',(∀ σ' H',Q σ' H'->Q' σ' H')->YW i x σ H Q->YW i x σ H Q':=fun _ _ _ _ _ h q=>h _ _ q
end
structure Gx where
 P:Ρ
 w:Ω
 K:Ι
 mg:Str->Option Α
 base:Heap
def Cx.gx (X:Cx):Gx:=⟨X.prog,X.w,X.K,X.mg,X.base⟩
def Gx.Raw (g:Gx) (x qual:Str) (st:Stmt) (ps:List Str):Prop:=∃ f fd,gU g.K x qual st f fd/\Xh g.K fd ps []/\g.mg x=some (.ref f)
def Gx.Fn (g:Gx) (k:Nat) (x:Str) (ps:List Str) (sp:Sp):Prop:=∃ f fd,bG g.P g.w g.K g.mg g.base dG k f fd ps sp/\Xh g.K fd ps []/\dP g.K (.ref f)=true/\g.mg x=some (.ref f)
def Gx.bw (g:Gx) (C:Addr) (m qual:Str) (st:Stmt) (ps:List Str):Prop:=∃ f fd,gU g.K m qual st f fd/\Xh g.K fd ps []/\Meth g.K C m f
def Gx.Me (g:Gx) (k:Nat) (C:Addr) (m:Str) (ps:List Str) (sp:Sp):Prop:=∃ f fd,bG g.P g.w g.K g.mg g.base dG k f fd ps sp/\Xh g.K fd ps []/\Meth g.K C m f
def Gx.fC (g:Gx) (x:Str) (C:Addr) (qual:Str) (st:Stmt) (ps:List Str):Prop:=∃ f fd,gU g.K "__init__" qual st f fd/\Xh g.K fd ps []/\Mk g.K C f/\g.mg x=some (.ref C)
def Gx.Ma (g:Gx) (k:Nat) (x:Str) (C:Addr) (ps:List Str) (sp:Sp):Prop:=∃ f fd,bG g.P g.w g.K g.mg g.base dG k f fd ps sp/\Xh g.K fd ps []/\Mk g.K C f/\g.mg x=some (.ref C)
abbrev Gx.cx (g:Gx) (N:List Str) (qual:Str) (st:Stmt) (f:Addr) (cdv:Α) (A:η) (outer:List Env) (s:Β) (H:Hp) (E:XK):Cx:=(Wo dG g.P g.w g.K g.mg g.base N qual (Yi st) f cdv A outer s H E).eZ
def VR (g:Gx) (k:Nat) (N:List Str) (qual:Str) (st:Stmt) (sp:Sp):Prop:=∀ (f:Addr) (cdv:Α) (A:η) (outer:List Env) (s:Β) (H:Hp) (vs:List V) (Q:VK) (E:XK),aO k (g.cx N qual st f cdv A outer s H E).A->sp vs H Q E ->
 ∃ t,eH (g.cx N qual st f cdv A outer s H E) (YV st) t/\t { nx:=fun _ H'=>Q .non H',rt:=Q } (Xw N vs) H
section
variable {g:Gx} {k:Nat} {x qual m:Str} {st:Stmt} {N ps:List Str} {sp:Sp} {C:Addr}
theorem Gx.Raw.fn (R:g.Raw x qual st ps) (S:ak N ps (Yi st)) (len:∀ vs H Q E,sp vs H Q E->vs.length=ps.length) (b:VR g k N qual st sp):g.Fn (k+1) x ps sp:=by
 obtain ⟨f,fd,F,bd,hm⟩:=R;exact ⟨f,fd,F.ok S len fun cdv A outer s H vs Q E hr h=>b f cdv A outer s H vs Q E hr h,bd,F.kp,hm⟩
theorem Gx.bw.me (R:g.bw C m qual st ps) (S:ak N ps (Yi st)) (len:∀ vs H Q E,sp vs H Q E->vs.length=ps.length) (b:VR g k N qual st sp):g.Me (k+1) C m ps sp:=by
 obtain ⟨f,fd,F,bd,hm⟩:=R;exact ⟨f,fd,F.ok S len fun cdv A outer s H vs Q E hr h=>b f cdv A outer s H vs Q E hr h,bd,hm⟩
theorem Gx.fC.ma (R:g.fC x C qual st ps) (S:ak N ps (Yi st)) (len:∀ vs H Q E,sp vs H Q E->vs.length=ps.length) (b:VR g k N qual st sp):g.Ma (k+1) x C ps sp:=by
 obtain ⟨f,fd,F,bd,hm,hg⟩:=R;exact ⟨f,fd,F.ok S len fun cdv A outer s H vs Q E hr h=>b f cdv A outer s H vs Q E hr h,bd,hm,hg⟩
theorem Gx.Fn.mono {j:Nat} (F:g.Fn j x ps sp) (h:j<=k):g.Fn k x ps sp:=by
 obtain ⟨f,fd,F,r⟩:=F;exact ⟨f,fd,F.mono h,r⟩
theorem Gx.Me.mono {j:Nat} (F:g.Me j C m ps sp) (h:j<=k):g.Me k C m ps sp:=by
 obtain ⟨f,fd,F,r⟩:=F;exact ⟨f,fd,F.mono h,r⟩
theorem Gx.Raw.none (R:g.Raw x qual st ps) (no:∀ vs H Q E,¬ sp vs H Q E):g.Fn k x ps sp:=by
 obtain ⟨f,fd,F,bd,hm⟩:=R;exact ⟨f,fd,⟨fun vs H Q E h=>absurd h (no vs H Q E),fun A outer s H args us vs Q E _ _ _ _ h=>absurd h (no vs H Q E)⟩,bd,F.kp,hm⟩
theorem Gx.bw.none (R:g.bw C m qual st ps) (no:∀ vs H Q E,¬ sp vs H Q E):g.Me k C m ps sp:=by
 obtain ⟨f,fd,F,bd,hm⟩:=R;exact ⟨f,fd,⟨fun vs H Q E h=>absurd h (no vs H Q E),fun A outer s H args us vs Q E _ _ _ _ h=>absurd h (no vs H Q E)⟩,bd,hm⟩
end
section
variable {g:Gx} {X:Cx} {k j:Nat} {x m:Str} {ps:List Str} {sp:Sp} {C:Addr} {e o:Expr} {es:List Expr} {t:TA} {ta:TE} {p pos apos:Pos}
theorem Yr (F:g.Fn j x ps sp) (hr:aO k X.A) (ha:PA X (e::es) t) (hj:j<=k) (hX:X.gx=g) (hg:Gl X x) (hdb:(x==("__debug__":Str))=false)
  (he:Τ (e::es) X.env=(false,eval e X.env)::Τ es X.env) (hpl:(be pos (Τ es X.env)).any (·.1)=false):PE X (.Call (.Name x p) (e::es) [] pos) (V3 sp [] E0 t):=by
 subst hX;obtain ⟨f,fd,F,b,kp,hm⟩:=F;exact JW F (hr.mono hj) hg hm kp b .nil W3 ha hdb he hpl
theorem Wy {pl:Sem Bool} (F:g.Me j C m ps sp) (c:Cls g.K C) (hr:aO k X.A) (ho:PE X o ta) (ha:PA X (e::es) t) (hj:j<=k) (hX:X.gx=g)
  (hst:Τ (e::es) X.env=(false,eval e X.env)::Τ es X.env) (hpl:(be pos (Τ es X.env)).any (·.1)=false)
  (ht:eval (.Call (.Attribute o m apos) (e::es) [] pos) X.env=(do
   let ov <- eval o X.env
   standAt apos.atName
   let (f,first) <- holding [ov] (i9 ov m pl)
   kP pos f first (be pos (Τ (e::es) X.env)) (kQ pos (i3 [] X.env)))):PE X (.Call (.Attribute o m apos) (e::es) [] pos) (QM C m sp [] E0 ta t):=by
 subst hX;obtain ⟨f,fd,F,b,hm⟩:=F;exact Yfb ho c hm F (hr.mono hj) b .nil W3 ha hst hpl ht
theorem UH (F:g.Ma j x C ps sp) (hr:aO k X.A) (ha:PA X (e::es) t) (hj:j+1<=k) (hX:X.gx=g) (hg:Gl X x) (hdb:(x==("__debug__":Str))=false)
  (he:Τ (e::es) X.env=(false,eval e X.env)::Τ es X.env) (hpl:(be pos (Τ es X.env)).any (·.1)=false):PE X (.Call (.Name x p) (e::es) [] pos) (QN C sp [] E0 t):=by
 subst hX;obtain ⟨f,fd,F,b,M,hm⟩:=F;exact Yfc M F (hr.mono hj) hg hm b .nil W3 ha hdb he hpl
theorem YA {id:String} {r:List V->Hp->VK->Prop} (hm:g.mg x=none) (hc:XC X (.builtin id) r) (ha:PA X (e::es) t) (hv:d6 x=some (.builtin id)) (hX:X.gx=g) (hg:Gl X x) (hn:x≠"__name__") (hdb:(x==("__debug__":Str))=false)
  (he:Τ (e::es) X.env=(false,eval e X.env)::Τ es X.env) (hpl:(be pos (Τ es X.env)).any (·.1)=false):PE X (.Call (.Name x p) (e::es) [] pos) (pF r t):=by
 subst hX;exact YdG hc hg hm hv ha hn hdb he hpl
theorem Wz {T:String} {r:List V->Hp->VK->Prop} (hm:g.mg x=none) (hc:XC X (.type T) r) (ha:PA X (e::es) t) (hv:d6 x=some (.type T)) (hX:X.gx=g) (hg:Gl X x) (hn:x≠"__name__") (hdb:(x==("__debug__":Str))=false)
  (he:Τ (e::es) X.env=(false,eval e X.env)::Τ es X.env) (hpl:(be pos (Τ es X.env)).any (·.1)=false):PE X (.Call (.Name x p) (e::es) [] pos) (pF r t):=by
 subst hX;exact YcD hc hg hm hv ha hn hdb he hpl
theorem Xq {T:String} (hm:g.mg x=none) (hv:d6 x=some (.type T)) (hX:X.gx=g) (hg:Gl X x) (hn:x≠"__name__") (hdb:(x==("__debug__":Str))=false):PE X (.Name x pos) (tC (.ty T)):=by
 subst hX;exact TJ hg hm hv rfl hn hdb
end
theorem Yf0 {H:Hp} {p:Addr} {o:HO} (h:H p=some o):upd H p o=H:=by
 funext b
 unfold upd
 split
 ·rename_i e;rw [e,h]
 ·rfl
def S (l:List Nat):Str:=⟨l.toArray⟩
section
variable {K:Ι} {h:Heap} {mg:Str->Option Α} {P:Ρ} {w:Ω} {base:Heap} {f C:Addr} {x qual m:Str} {st:Stmt} {ps:List Str} {oc kV dc pm cd ct:Α} {od an:Option Addr} {sl:Array (Option Α)}
theorem YK (X:K.In h) (G:h.Ns aw mg) (ps:List Str)
  (a:js K aw x=some (some (.ref f))) (l:K.lookup f=some ⟨oc,od,.func (cr x x (Y9 st) (YV st) (Yi st) .none kV dc pm an cd ct),sl⟩) (c:gf K cd x=true) (k:dP K (.ref f)=true)
  (b:∀ (kV doc pm:Α) (an:Option Addr) (cdv ct:Α) (us:List Α),us.length=ps.length->gi (cr x x (Y9 st) (YV st) (Yi st) .none kV doc pm an cdv ct) ⟨us,[]⟩=pure (ps.zip us)) :
  ∀ P w base,(Gx.mk P w K mg base).Raw x x st ps:=fun P w base =>
 have F:=WR (st:=st) l c k
 ⟨f,_,F,F.binds b,gV X G a⟩
theorem XJ (X:K.In h) (G:h.Ns aw mg) (ps:List Str)
  (a:PySem.W.findIn K (.ref C) m=some (some (.ref f))) (i:PySem.W.isFn K (.ref f)=true) (l:K.lookup f=some ⟨oc,od,.func (cr m qual (Y9 st) (YV st) (Yi st) .none kV dc pm an cd ct),sl⟩) (c:gf K cd qual=true) (k:dP K (.ref f)=true)
  (b:∀ (kV doc pm:Α) (an:Option Addr) (cdv ct:Α) (us:List Α),us.length=ps.length->gi (cr m qual (Y9 st) (YV st) (Yi st) .none kV doc pm an cdv ct) ⟨us,[]⟩=pure (ps.zip us)) :
  ∀ P w base,(Gx.mk P w K mg base).bw C m qual st ps:=fun P w base =>
 have F:=WR (st:=st) l c k
 ⟨f,_,F,F.binds b,⟨a,i,k⟩⟩
theorem UY (X:K.In h) (G:h.Ns aw mg) (ps:List Str) (aC:js K aw x=some (some (.ref C))) (mk:PySem.W.makesIn K C=true) (kc:dP K (.ref C)=true)
  (a:PySem.W.findIn K (.ref C) "__init__"=some (some (.ref f))) (i:PySem.W.isFn K (.ref f)=true) (l:K.lookup f=some ⟨oc,od,.func (cr "__init__" qual (Y9 st) (YV st) (Yi st) .none kV dc pm an cd ct),sl⟩) (c:gf K cd qual=true) (k:dP K (.ref f)=true)
  (b:∀ (kV doc pm:Α) (an:Option Addr) (cdv ct:Α) (us:List Α),us.length=ps.length->gi (cr "__init__" qual (Y9 st) (YV st) (Yi st) .none kV doc pm an cdv ct) ⟨us,[]⟩=pure (ps.zip us)) :
  ∀ P w base,(Gx.mk P w K mg base).fC x C qual st ps:=fun P w base =>
 have F:=WR (st:=st) l c k
 ⟨f,_,F,F.binds b,⟨mk,a,i,kc⟩,gV X G aC⟩
end
def Kg (K:Ι) (mg:Str->Option Α) (st:Stmt) (x n:Str):Prop:=∃ f fd,gU K n n st f fd/\(∀ (s:Β) (u:Α),BindsTo s fd ⟨[u],[]⟩ [(x,u)])/\mg n=some (.ref f)
theorem YcN {K:Ι} {h:Heap} {mg:Str->Option Α} {f:Addr} {x n:Str} {st:Stmt} {oc kV dc pm cd ct:Α} {od an:Option Addr} {sl:Array (Option Α)} (X:K.In h) (G:h.Ns aw mg)
  (a:W.nsIn K aw n=some (some (.ref f))) (l:K.lookup f=some ⟨oc,od,.func (cr n n (Y9 st) (YV st) (Yi st) .none kV dc pm an cd ct),sl⟩) (c:gf K cd n=true) (k:dP K (.ref f)=true)
  (b:∀ (kV doc pm:Α) (an:Option Addr) (cdv ct:Α) (s:Β) (u:Α),BindsTo s (cr n n (Y9 st) (YV st) (Yi st) .none kV doc pm an cdv ct) ⟨[u],[]⟩ [(x,u)]):Kg K mg st x n :=
 ⟨f,_,WR (st:=st) l c k,b kV dc pm an cd ct,W.mg_of X G a⟩
section
variable {X:Cx}
theorem Kh {a:Int} {m:Nat} (h:a.natAbs<2^m):eQ a<=m:=by
 unfold eQ
 split
 ·omega
 ·rename_i h0
  have h0:a.natAbs≠0:=by simpa using h0
  have:=(lb h0).mpr h;omega
def QO (i j:Int):Prop:=∃ m n:Nat,i.natAbs<2^m/\j.natAbs<2^n/\m+n<=100000000
theorem QO.ok {i j:Int} (h:QO i j):IntMulOk i j:=by
 obtain ⟨m,n,h1,h2,h3⟩:=h;exact IntMulOk.of_le (Kh h1) (Kh h2) (by omega)
def Kl (i j:Int):Prop:=0<j/\j.natAbs<2^9000
theorem Wp:cu X (gs .FloorDiv) (rI Kl fun i j => .int (i / j)):=pD fun i j _ _ _ _ _ hc q=>by
 have h1:(0:Int)<j:=hc.1;have h2:=hc.2;have h3:j.natAbs≠0:=by omega
 exact floordiv_int (by omega) (by rw [Int.fdiv_eq_ediv_of_nonneg i (by omega)];exact q) (.inl (PyProof.noPylong_of_log2 ((lb h3).mpr h2)))
theorem Wa {j:Int} (h:0<j) (h2:j<1073741824) {i:Int}:Kl i j:=⟨h,χ (show j.natAbs<2^30 by omega) (Nat.pow_le_pow_right (by decide) (by decide))⟩
end
theorem Km {CX:gk} {P:Ρ} {w:Ω} {K:Ι} {mg:Str->Option Α} {base:Heap} {N:List Str} {qual:Str} {scope:da} {f:Addr} {cd:Α} {A:η} {outer:List Env} {s:Β} {H:Hp} {E:XK} :
  (Wo CX P w K mg base N qual scope f cd A outer s H E).K=K:=rfl
theorem Ko {X:Cx}:X.eZ.K=X.K:=rfl
section
variable {g:TG} {tb:TS} {D:Ends} {σ:St} {H:Hp}
theorem YaC {ta:TA} {n:Nat} (Pv:Nat->St->Hp->Prop) (ha:∀ R:List V->Hp->Prop,R [.int n] H->ta σ H R) (hn:n<2^62) (h0:Pv 0 σ H)
  (hs:∀ i σ H,i<n->Pv i σ H->g (.int i) σ H fun σ2 H2=>tb { D with nx:=Pv (i+1),ct:=Pv (i+1),bk:=D.nx } σ2 H2) (hd:∀ σ H,Pv n σ H->D.nx σ H):Vt (yU ta) g tb D σ H:=by
 refine ha _ ⟨n,rfl,by omega,by omega,?_⟩;refine T8 (lo:=0) (n:=n) Pv h0 (fun i σ H hi p=>?_) hd;have e:(0:Int)+i=i:=by omega
 rw [e];exact hs i σ H hi p
end
section
variable {X:Cx}
theorem QD (hc:X.calm=true:=by rfl):XC X (.builtin "sum") (fun xs H Q=>∃ (p:Addr) (ns:List Int),xs=[.ref p]/\aA X.K H p (ns.map V.int)/\Q (.int ns.sum) H):=by
 intro pins s σ H xs us Q I r h;obtain ⟨p,ns,rfl,hq,q⟩:=h;obtain ⟨u,rfl,rx⟩:=WK r
 cases rx
 obtain ⟨its,r',pl,hz⟩:=I.list hq;have hi:=YbI r';have hl:=pl.isList;obtain ⟨xs,ex⟩:=hi.allInts.items;rw [ex] at hl
 have e:preSum (numAt xs) xs.size=ns.sum:=by
  have h1:=nums_intItems (xs:=xs);rw [<- ex] at h1
  have h2:=hi.numsOf;rw [preSum_eq,d0 (by simp)];rw [<- h1];exact congrArg List.sum h2
 refine sum_intListG (I.ok.hd hc) hl fun h' tk t' hk=>?_
 rw [e];exact ⟨.int _,H,I.kept (t':=tk) hk,⟨t',rfl⟩,q⟩
end
def Ite (G:Hp->List V->Prop):It :=
 ⟨fun i H=>∃ xs x,G H xs/\xs[i]?=some x,fun i H v H'=>∃ T,v = .ref T/\H T=none/\∀ xs x,G H xs->xs[i]?=some x->H'=upd H T (.tup [.int i,x]),fun i H=>∃ xs,G H xs/\xs.length<=i⟩
theorem YbO {P:Ρ} {w:Ω} {K:Ι} {elts:List Expr} {kk:Nat} {pos:Pos} {a e it:Addr} (ne:e≠it) (na:a≠e/\a≠it) :
  Turn P w K (.Tuple elts kk pos) (Ite fun H xs=>aA K H a xs) [e,it] e (fun i h=>(∃ old,IsEnum h e it i old)/\h.IsListIter it a i) where
 mem:=by simp
 obj:=fun i h ⟨⟨old,he⟩,hi⟩ c hc=>by
  simp only [Ψ,ax,or_false] at hc;rcases hc with rfl | rfl
  ·exact ⟨_,he,fun v z=>by cases z⟩
  ·obtain ⟨o,q,_,d⟩:=hi
   exact ⟨o,q,fun v z=>by rw [d] at z;cases z⟩
 keep:=fun i h h' ⟨⟨old,he⟩,hi⟩ q=>⟨⟨old,q e (by simp) _ he⟩,hi.at fun o z=>q it (by simp) o z⟩
 item:=by
  intro X hP hw hK hc i pins s σ H E I hf ⟨⟨old,he⟩,hi⟩ hg;subst hP hw hK;obtain ⟨xs,x,g1,hx⟩:=hg;obtain ⟨its,rv,pl,hz⟩:=I.list g1;obtain ⟨u,hu,ru⟩:=rv.get hx;refine wpAny_pyNext_enum_item he hi pl.isList (x:=u) (by simpa using hu) ne fun h1 ho hi1 hT hsz kp=>?_
  refine ⟨_,rfl,?_⟩;refine wpAny_letOwnedTupleGo_enum (s:={ s with heap:=h1,toks:=s.toks+1 }) ho fun h2 he2 sb=>?_
  have elt:e<s.heap.objs.size:=Φ he;have zO:∀ c o,c∉[e,it]->s.heap.get? c=some o->h2.get? c=some o:=fun c o hm z=>by
   have c1:c≠e:=fun q=>hm (by simp [q])
   have c2:c≠it:=fun q=>hm (by simp [q])
   exact sb.extBut c o c1 (kp c o c1 c2 z)
  have hT2:h2.get? s.heap.objs.size=some { cls := .type "tuple",data := .seq #[.int i s.toks,u] }:=sb.extBut _ _ (eK elt) hT;have I':=I.pK (t':=s.toks+1) (h':=h2) (T:=s.heap.objs.size) (vs:=[.int i,x]) zO hf (Ν _) (show YO X.prog X.w _ h2 _ (.tup [.int i,x]) from ⟨by show 2<=sizeLine;decide,[.int i s.toks,u],.cons ⟨_,rfl⟩ (.cons ru .nil),_,hT2,rfl,_,rfl⟩);have fresh:H s.heap.objs.size=none:=I.hok.fresh (Ν _);refine ⟨.ref s.heap.objs.size,_,I',rfl,⟨_,rfl,fresh,fun xs' x' zP hx'=>?_⟩,⟨⟨_,by simpa using he2⟩,hi1.at fun o z=>sb.extBut _ _ (ψ ne) z⟩,fun c hm=>?_⟩
  ·rw [I.mO zP g1,hx] at hx'
   cases hx'
   rfl
  ·have h0:=(hf c hm).1
   have zQ:c<s.heap.objs.size:=by
    simp only [Ψ,ax,or_false] at hm;rcases hm with rfl | rfl
    ·exact elt
    ·obtain ⟨o,q,_⟩:=hi;exact Φ q
   rw [Ye (ρ zQ)];exact h0
 done:=by
  intro X hP hw hK hc i pins s σ H E I hf ⟨⟨old,he⟩,hi⟩ hg;subst hP hw hK;obtain ⟨xs,g1,hx⟩:=hg;obtain ⟨its,rv,pl,hz⟩:=I.list g1;have hl:=rv.length;obtain ⟨f0,f1,f2,f3,f4,f5⟩:=hf it (by simp);exact wpAny_pyNext_enum_end (I.ok.hd hc) he hi pl.isList (by simp;omega) fun h' eb=>⟨rfl,I.turned (t':=s.toks) (fun b o hb z=>eb b o hb z) f0 f1 f3 f4 f5⟩
 self:=fun _ _ _ _ _ ⟨⟨_,he⟩,_⟩ h=>iN he h
section
variable {X:Cx} {elts:List Expr} {kk:Nat} {tpos:Pos}
def Kp (K:Ι) (ta:TA):TI:=fun σ H R=>ta σ H fun vs H1=>∃ a xs,vs=[.ref a]/\aA K H1 a xs/\R (Ite fun H xs=>aA K H a xs) H1
theorem Um {a:Expr} {ta:TA} {p pos:Pos} (hg:Gl X "enumerate") (hm:X.mg "enumerate"=none) (ha:PA X [a] ta) (hs:Τ [a] X.env=[(false,eval a X.env)]) :
  PI X (.Tuple elts kk tpos) (.Call (.Name "enumerate" p) [a] [] pos) (Kp X.K ta):=by
 intro pins s σ H R I h;refine Call_ (X0 I hg hm boot_enumerate (a7 (aG (ha pos pins s σ H _ I h) fun us s1 ⟨vs,H1,I1,r1,q1⟩=>?_) hs rfl));obtain ⟨x,xs,e,hx,q⟩:=q1;subst e;obtain ⟨u,rfl,ru⟩:=WK r1
 cases ru
 obtain ⟨i1,_,pl,_⟩:=I1.list hx;have l1:x<s1.heap.objs.size:=by obtain ⟨_,e,_⟩:=pl.isList;exact Φ e
 refine call_enumerate_list pl.isList fun h' he hi hsz keep=>?_
 refine iN he ?_;have I2:Inv X pins σ H1 { s1 with heap:=h' }:=I1.kept (t':=s1.toks) keep;have l1':@LT.lt Nat _ x s1.heap.objs.size:=l1;refine ⟨_,[s1.heap.objs.size+1,s1.heap.objs.size],_,_,H1,rfl,I2,YbO (by intro z;have z':@Eq Nat _ _:=z;omega) ⟨by intro z;have z':@Eq Nat _ _:=z;omega,by intro z;have z':@Eq Nat _ _:=z;omega⟩,⟨⟨_,he⟩,hi⟩,fun c hc=>?_,q⟩;have hle:s1.heap.objs.size<=c:=by
  simp only [Ψ,ax,or_false] at hc;rcases hc with e | e<;>(have e':@Eq Nat _ _:=e;show @LE.le Nat _ s1.heap.objs.size c;omega)
 exact I1.iT hle (I1.hok.fresh hle)
end
mutual
inductive Den (K:Ι) (H:Hp):V->ξ->Prop
 | non:Den K H .non .none
 | bl (b:Bool):Den K H (.bl b) (.bool b)
 | int (i:Int):Den K H (.int i) (.int i)
 | str (x:Str) (h:ce x=true):Den K H (.str x) (.str x)
 | lst {a:Addr} {vs:List V} {ds:List ξ}:aA K H a vs->dZ K H vs ds->Den K H (.ref a) (.list ds)
 | tup {a:Addr} {vs:List V} {ds:List ξ}:aq K H a vs->dZ K H vs ds->Den K H (.ref a) (.tuple ds)
inductive dZ (K:Ι) (H:Hp):List V->List ξ->Prop
 | nil:dZ K H [] []
 | cons {v:V} {d:ξ} {vs:List V} {ds:List ξ}:Den K H v d->dZ K H vs ds->dZ K H (v::vs) (d::ds)
end
mutual
theorem Den.keep {K:Ι} {H H':Hp} (e:Yg H H'):∀ {v:V} {d:ξ},Den K H v d->Den K H' v d
 | _,_,.non => .non
 | _,_,.bl b => .bl b
 | _,_,.int i => .int i
 | _,_,.str x h => .str x h
 | _,_,.lst h hs => .lst (e.seq h) (hs.keep e)
 | _,_,.tup h hs => .tup (e.tup h) (hs.keep e)
theorem dZ.keep {K:Ι} {H H':Hp} (e:Yg H H'):∀ {vs:List V} {ds:List ξ},dZ K H vs ds->dZ K H' vs ds
 | _,_,.nil => .nil
 | _,_,.cons h hs => .cons (h.keep e) (hs.keep e)
end
mutual
theorem Den.lay {K:Ι} {H:Hp}:∀ {v:V} {d:ξ},Den K H v d->d.canLay0=true
 | _,_,.non=>rfl
 | _,_,.bl b=>rfl
 | _,_,.int i=>rfl
 | _,_,.str x h=>by simpa [eI] using h
 | _,_,.lst _ hs=>by rw [eI];exact hs.lay
 | _,_,.tup _ hs=>by rw [eI];exact hs.lay
theorem dZ.lay {K:Ι} {H:Hp}:∀ {vs:List V} {ds:List ξ},dZ K H vs ds->ez ds=true
 | _,_,.nil=>rfl
 | _,_,.cons h hs=>by rw [ez,h.lay,hs.lay];rfl
end
section
variable {X:Cx}
mutual
theorem Den.reads {pins:List (Addr×Obj)} {σ:St} {H:Hp} {s:Β} (I:Inv X pins σ H s):∀ {v:V} {d:ξ} {u:Α},Den X.K H v d->YH v u->∃ as,Reads s.heap u d as
 | _,_,u,.non,r=>by cases (show u = .none from r);exact ⟨_,.none⟩
 | _,_,u,.bl b,r=>by cases (show u = .bool b from r);exact ⟨_,.bool b⟩
 | _,_,u,.int i,r=>by obtain ⟨t,rfl⟩:=r;exact ⟨_,.int i t⟩
 | _,_,u,.str x h,r=>by obtain ⟨t,rfl⟩:=r;exact ⟨_,.str x t⟩
 | _,_,u,.lst (a:=a) h hs,r=>by
  cases (show u = .ref a from r)
  obtain ⟨its,rv,pl,hz⟩:=I.list h;obtain ⟨as,ra⟩:=hs.reads I rv;obtain ⟨o,e1,e2,n,e3⟩:=pl.isList;exact ⟨_,.list e1 e2 e3 (by simpa using ra)⟩
 | _,_,u,.tup (a:=a) h hs,r=>by
  cases (show u = .ref a from r)
  obtain ⟨its,rv,pl,hz⟩:=I.tuple h;obtain ⟨as,ra⟩:=hs.reads I rv;obtain ⟨o,e1,e2,n,e3⟩:=(show s.heap.IsTuple a its.toArray from pl);exact ⟨_,.tuple e1 e2 e3 (by simpa using ra)⟩
theorem dZ.reads {pins:List (Addr×Obj)} {σ:St} {H:Hp} {s:Β} (I:Inv X pins σ H s):∀ {vs:List V} {ds:List ξ} {us:List Α},dZ X.K H vs ds->Yz vs us->∃ as,ReadsAll s.heap us ds as
 | _,_,us,.nil,r=>by cases r;exact ⟨_,.nil⟩
 | _,_,us,.cons h hs,r=>by
  cases r with
  | cons r rr =>
   obtain ⟨as,ra⟩:=h.reads I r;obtain ⟨bs,rb⟩:=hs.reads I rr;exact ⟨_,.cons ra rb⟩
end
theorem Q6 (hu:X.A.units+64<fw):cu X (bj .Eq) (fun x y H Q=>∃ d e,Den X.K H x d/\Den X.K H y e/\d.depth<=64/\Q (.bl (a8 d e)) H):=by
 intro pins s σ H x y v u Q I rx ry h;obtain ⟨d,e,hd,he,dp,q⟩:=h;obtain ⟨as,ra⟩:=hd.reads I rx;obtain ⟨bs,rb⟩:=he.reads I ry;exact SeqAt.rcAt_reads ra rb hd.lay he.lay (by omega) _ _ _ _ ⟨.bl _,H,I,rfl,q⟩
end
theorem Xl {α:Type} {l:List α} {i:Nat} {x:α} (h:l[i]?=some x):l.take (i+1)=l.take i++[x]:=by
 obtain ⟨hi,hc⟩:=Η.mp h;rw [List.take_succ_eq_append_getElem hi,hc]
theorem Yf1 {J:It} {P:Hp->Prop} {xs:List V} (hJ:XU J P xs) {src:List (Option Nat)} {te:TE} {σ:St} {H1:Hp} {Q:VK} {D:Addr} (ys:List V) (hP:∀ H',Yg H1 H'->P H') (hD:H1 D=none) (hl:ys.length=xs.length) (hlen:xs.length<=100000)
  (step:∀ (i:Nat) x y H',xs[i]?=some x->ys[i]?=some y->Yg H1 H'->∀ R:VK,(∀ aJ,Yg H' aJ->R y aJ)->te (some x::YJ src σ) H' R)
  (fin:∀ H',Yg H1 H'->H' D=some (.lst ys)->Q (.ref D) H'):LC (none::src) J (YW 0) Wj te σ H1 Q D:=by
 have h6:100000<sizeLine:=by decide
 refine UG hJ (fun i zs σ' H'=>zs=ys.take i/\(∃ o,σ'=o::YJ src σ)/\Yg H1 H'/\H' D=some (.lst zs)) ⟨by simp,⟨none,rfl⟩,.aj hD _,Yb⟩ (fun i zs σ' H' p=>⟨hP _ p.2.2.1,p.2.2.2⟩) (Wk 0) ?_ ?_
 ·rintro i zs σ' H' x hx ⟨rfl,⟨o,rfl⟩,sm,hd⟩
  have hi:=(Η.mp hx).1;have hy:ys[i]?=some (ys[i]'(by omega)):=Λ _
  show te (some x::YJ src σ) H' _
  refine step i x _ H' hx hy sm _ fun aJ s2=>⟨s2 _ _ hd,?_,(Xl hy).symm,⟨_,rfl⟩,.cO hD (sm.trans s2) _,Yb⟩
  rw [ν];omega
 ·rintro zs σ' H' ⟨rfl,_,sm,hd⟩
  rw [<- hl,dS] at hd
  exact fin H' sm hd
end L2
namespace L2
open PySem PySem.Spec PyProof.Rows
section
variable {a b c d e r:TS} {D:Ends} {σ:St} {H:Hp} (M:St->Hp->Prop) (h1:∀ σ H,M σ H->r D σ H)
include h1
end
theorem Yfi (i j:Int):vd (.int i) (.int j)=true:=rfl
theorem Yfj (i j:Str):vd (.str i) (.str j)=true:=rfl
theorem YdM {α:Type} (xs:List α) (i j:Nat):(xs.drop (min i xs.length)).take (min j xs.length - min i xs.length)=(xs.drop i).take (j - i):=by
 by_cases hi:i<=xs.length
 ·rw [Nat.min_eq_left hi]
  by_cases hj:j<=xs.length
  ·rw [Nat.min_eq_left hj]
  ·rw [Nat.min_eq_right (by omega),d0 (by rw [aI];omega),d0 (by rw [aI];omega)]
 ·rw [ft (by omega),ft (show xs.length<=i by omega)]
  simp
theorem Wq (xs:List V) (j:Nat):WJ xs none (some (j:Int))=xs.take j:=by
 unfold WJ;rw [HT.pG,HT.mV,List.drop_zero,Nat.sub_zero];have:=YdM xs 0 j;simpa using this
theorem Vj (xs:List V) (i:Nat):WJ xs (some (i:Int)) none=xs.drop i:=by
 unfold WJ;rw [HT.pG,HT.mV];by_cases hi:i<=xs.length
 ·rw [Nat.min_eq_left hi,d0 (by rw [aI];omega)]
 ·rw [ft (by omega),ft (show xs.length<=i by omega)]
  simp
theorem Wr {α:Type} {c:TT} {tb:TS} {D:Ends} {σ:St} {H:Hp} (Pv:α->St->Hp->Prop) (cond:α->Bool) (μ:α->Nat) (a₀:α) (h0:Pv a₀ σ H)
  (hc:∀ a σ H,Pv a σ H->∀ R:Bool->Hp->Prop,(∀ H',Pv a σ H'->R (cond a) H')->c σ H R)
  (hb:∀ a σ H,Pv a σ H->cond a=true->tb { D with nx:=fun σ' H'=>∃ a',Pv a' σ' H'/\μ a'<μ a,ct:=fun σ' H'=>∃ a',Pv a' σ' H'/\μ a'<μ a,bk:=D.nx } σ H)
  (hd:∀ a σ H,Pv a σ H->cond a=false->D.nx σ H):JF c tb D σ H:=by
 refine ⟨fun m σ H=>∃ a,m=μ a/\Pv a σ H,⟨_,a₀,rfl,h0⟩,?_⟩;rintro m σ H ⟨a,rfl,p⟩;refine hc a σ H p _ fun H' p'=>?_
 cases e:cond a with
 | true=>exact ⟨_,fun σ' H' ⟨a',q,l⟩=>⟨_,l,a',rfl,q⟩,hb a σ H' p' e⟩
 | false=>exact hd a σ H' p' e
section
variable {X:Cx} {tg:Expr}
def zR (hi:Int) (n:Nat):It:=⟨fun i _=>i<n,fun i H x H'=>H'=H/\x = .int (hi - i),fun i _=>n<=i⟩
theorem YcQ {P:Ρ} {w:Ω} {K:Ι} {tg:Expr} (it:Addr) (hi:Int) (n:Nat):Turn P w K tg (zR hi n) [it] it (fun i h=>i4 h it (hi+(i:Nat)*(-1)) ((n:Int) - (i:Nat)) (-1)) where
 mem:=by simp
 obj:=fun i h st b hb=>by
  have e:b=it:=by simpa using hb
  subst e;exact ⟨_,st,fun v z=>by
   have z':lh _=Data.cell v:=z
   cases z'⟩
 keep:=fun i h h' st k=>k it (by simp) _ st
 item:=by
  intro X hP hw hK hc i pins s σ H E I hf st hg;subst hP hw hK;obtain ⟨f0,f1,f2,f3,f4,f5⟩:=hf it (by simp);have W:=Walks.range (prog:=X.prog) (w:=X.w) (I.ok.hd hc) it hi (-1) n;refine W.item i s _ _ hg st fun v h' tk hv st' kk=>?_
  obtain ⟨t,rfl⟩:=hv;have I1:Inv X pins σ H { s with heap:=h',toks:=tk }:=I.turned (fun b o hb e=>kk b o (by simpa using hb) e) f0 f1 f3 f4 f5;refine ⟨_,rfl,Ux (s:={ s with heap:=h',toks:=tk }) (n:="range_iterator") st' rfl rfl (by decide) ⟨.int (hi - i),H,I1,⟨t,?_⟩,⟨rfl,rfl⟩,st',fun b hb=>(hf b hb).1⟩⟩;have:hi+(i:Int) * -1=hi - i:=by omega
  rw [this]
 done:=by
  intro X hP hw hK hc i pins s σ H E I hf st hg;subst hP hw hK;obtain ⟨f0,f1,f2,f3,f4,f5⟩:=hf it (by simp);exact wpAny_pyNext_range_end (I.ok.hd hc) st (by have:n<=i:=hg;omega) fun h' eb=>⟨rfl,I.turned (t':=s.toks) (fun b o hb e=>eb b o hb e) f0 f1 f3 f4 f5⟩
 self:=fun _ _ _ _ _ st h=>wpAny_pyIter_rangeiter st h
theorem YbP {a b:Int} (ha : -(2^62)<=a) (ha':a<2^62) (hb : -(2^62)<=b) (hb':b<2^62):ib a b (-1)=true:=by
 have e:af a b (-1)=if a>b then a - b else 0:=by unfold af;simp
 unfold ib;rw [e];simp only [Builtin.Range.rangeFitsLong,c6,Bool.or_eq_true,decide_eq_true_eq,beq_iff_eq,show ¬ ((-1:Int)>0) by decide,if_false]
 split<;>omega
theorem Yfk {pins:List (Addr×Obj)} {σ:St} {H:Hp} {s:Β} {R:It->Hp->Prop} {E:Α->Β->Prop} {lo hi:Int} {t u v:Tok} {tk:Nat} (I:Inv X pins σ H s) (h1 : -(2^62)<=lo) (h2:lo<2^62) (h3 : -(2^62)<=hi) (h4:hi<2^62)
  (q:R (zR lo (lo - hi).toNat) H):Μ (Ξ X.prog X.w) X.A (pyIter (.ref s.heap.objs.size)) (PIE X pins σ tg R) E { s with heap:=s.heap.push { cls := .type "range",data := .fields #[.int lo t,.int hi u,.int (-1) v] },toks:=tk }:=by
 refine wpAny_pyIter_range (IsRange.new ..) (YbP h1 h2 h3 h4) ?_;have I1:Inv X pins σ H { s with heap:=s.heap.push { cls := .type "range",data := .fields #[.int lo t,.int hi u,.int (-1) v] },toks:=tk }:=I.kept fun b o e=>Ζ _ e
 refine ⟨(s.heap.push { cls := .type "range",data := .fields #[.int lo t,.int hi u,.int (-1) v] }).objs.size,[(s.heap.push { cls := .type "range",data := .fields #[.int lo t,.int hi u,.int (-1) v] }).objs.size],_,_,H,rfl,
  I1.kept (t':=tk) fun b o e=>Ζ _ e,YcQ _ lo (lo - hi).toNat,?_,fun b hb=>?_,q⟩
 ·have e1:lo+((0:Nat):Int)*(-1)=lo:=by simp
  have e2:(((lo - hi).toNat:Nat):Int) - ((0:Nat):Int)=af lo hi (-1):=by unfold af;simp;split<;>omega
  show i4 _ _ (lo+((0:Nat):Int)*(-1)) ((((lo - hi).toNat:Nat):Int) - ((0:Nat):Int)) (-1)
  rw [e1,e2];exact δ _ rfl
 ·have e:b=(s.heap.push { cls := .type "range",data := .fields #[.int lo t,.int hi u,.int (-1) v] }).objs.size:=by simpa using hb
  subst e;exact I1.iT (Ν _) (I1.hok.fresh (Ν _))
def Kq (ta:TA):TI:=fun σ H R=>ta σ H fun vs H1=>∃ i j:Int,vs=[.int i,.int j,.int (-1)]/\(-(2^62)<=i/\i<2^62 /\ -(2^62)<=j/\j<2^62)/\R (zR i (i - j).toNat) H1
theorem YcR {a b c:Expr} {ta:TA} {p pos:Pos} (hg:Gl X "range") (hm:X.mg "range"=none) (ha:PA X [a,b,c] ta) (hs:Τ [a,b,c] X.env=[(false,eval a X.env),(false,eval b X.env),(false,eval c X.env)]) (hs2:Τ [b,c] X.env=[(false,eval b X.env),(false,eval c X.env)]) :
  PI X tg (.Call (.Name "range" p) [a,b,c] [] pos) (Kq ta):=by
 intro pins s σ H R I h;refine Call_ (X0 I hg hm boot_range (a7 (aG (ha pos pins s σ H _ I h) fun us s1 ⟨vs,H1,I1,r1,q1⟩=>?_) (by rw [hs,hs2]) (by rw [hs2];rfl)));obtain ⟨i,j,e,⟨q1,q2,q3,q4⟩,q⟩:=q1;subst e
 cases r1 with
 | cons r rr =>
  cases rr with
  | cons r' rr =>
   cases rr with
   | cons r'' rr =>
    cases rr
    obtain ⟨t,rfl⟩:=r;obtain ⟨t',rfl⟩:=r';obtain ⟨t'',rfl⟩:=r'';exact call_range_3 (by decide) (Yfk I1 q1 q2 q3 q4 q) (.inl (PyProof.noPylong_small (by decide)))
end
theorem UI {g:TG} {tb:TS} {D:Ends} {σ:St} {H:Hp} {K:Ι} {tl:TE} {xs:List V} (Pv:Addr->Nat->St->Hp->Prop) (ha:∀ R:V->Hp->Prop,(∀ c H1,Pv c 0 σ H1->R (.ref c) H1)->tl σ H R) (hl:∀ c i σ H,i<=xs.length->Pv c i σ H->aA K H c xs)
  (hs:∀ c (i:Nat) x σ H,xs[i]?=some x->Pv c i σ H->g x σ H fun σ2 H2=>tb { D with nx:=Pv c (i+1),ct:=Pv c (i+1),bk:=D.nx } σ2 H2) (hd:∀ c σ H,Pv c xs.length σ H->D.nx σ H):Vt (Wf K tl) g tb D σ H:=by
 refine ha _ fun c H1 h0=>⟨c,rfl,⟨xs,hl c 0 σ H1 (ar _) h0⟩,?_⟩
 exact Ui (Pv c) h0 (hl c) (hs c) (hd c)
section
variable {src:List (Option Nat)} {te:TE} {σ:St} {H:Hp} {Q:VK}
theorem VS {K:Ι} {tl:TE} {xs:List V} (ys:List V) (ha:∀ R:V->Hp->Prop,(∀ a H1,Yg H H1->aA K H1 a xs->R (.ref a) H1)->tl σ H R) (hl:ys.length=xs.length) (hlen:xs.length<=100000)
  (step:∀ (i:Nat) x y H',xs[i]?=some x->ys[i]?=some y->Yg H H'->∀ R:VK,(∀ aJ,Yg H' aJ->R y aJ)->te (some x::YJ src σ) H' R)
  (fin:∀ D H',H D=none->Yg H H'->H' D=some (.lst ys)->Q (.ref D) H'):je (none::src) (Wf K tl) (YW 0) Wj te σ H Q :=
 ha _ fun a H1 s1 hS=>⟨a,rfl,⟨xs,hS⟩,fun D hD=>Yf1 (XV.imp fun H' (e:Yg H1 H')=>e.seq hS) ys (fun _ e=>e) hD hl hlen (fun i x y H' hx hy sm R r=>step i x y H' hx hy (s1.trans sm) R r) fun H' sm=>fin D H' (s1.free hD) (s1.trans sm)⟩
theorem Yfl {J:It} {P:Hp->Prop} {xs:List V} (hJ:XU J P xs) {tt:TT} {H1:Hp} {D:Addr} (p:V->Bool) (f:V->V) (hP:∀ H',Yg H1 H'->P H') (hD:H1 D=none) (hlen:xs.length<=100000)
  (test:∀ x H',x∈xs->Yg H1 H'->∀ R:Bool->Hp->Prop,(∀ aJ,Yg H' aJ->R (p x) aJ)->tt (some x::YJ src σ) H' R)
  (step:∀ x H',x∈xs->p x=true->Yg H1 H'->∀ R:VK,(∀ aJ,Yg H' aJ->R (f x) aJ)->te (some x::YJ src σ) H' R)
  (fin:∀ H',Yg H1 H'->H' D=some (.lst ((xs.filter p).map f))->Q (.ref D) H'):LC (none::src) J (YW 0) tt te σ H1 Q D:=by
 have h6:100000<sizeLine:=by decide
 refine zM hJ (fun i zs σ' H'=>zs=((xs.take i).filter p).map f/\(∃ o,σ'=o::YJ src σ)/\Yg H1 H'/\H' D=some (.lst zs)) ⟨by simp,⟨none,rfl⟩,.aj hD _,Yb⟩ (fun i zs σ' H' q=>⟨hP _ q.2.2.1,q.2.2.2⟩) ?_ ?_
 ·rintro i zs σ' H' x hx ⟨rfl,⟨o,rfl⟩,sm,hd⟩
  have hi:=(Η.mp hx).1;have hm:=Χ hx
  show tt (some x::YJ src σ) H' _
  refine test x H' hm sm _ fun H2 s2=>?_
  cases e:p x with
  | true =>
   refine VQ ?_;refine step x H2 hm e (sm.trans s2) _ fun H3 s3=>⟨s3 _ _ (s2 _ _ hd),?_,?_,⟨_,rfl⟩,.cO hD ((sm.trans s2).trans s3) _,Yb⟩
   ·have h7:=List.length_filter_le p (xs.take i)
    rw [Θ];rw [ν] at h7
    omega
   ·rw [Xl hx,ir,am]
    simp [List.filter,e]
  | false =>
   refine zG ?_;refine ⟨?_,⟨_,rfl⟩,sm.trans s2,s2 _ _ hd⟩;rw [Xl hx,ir];simp [List.filter,e]
 ·rintro zs σ' H' ⟨rfl,_,sm,hd⟩
  rw [dS] at hd
  exact fin H' sm hd
theorem YdN {K:Ι} {tl:TE} {tt:TT} {xs:List V} (p:V->Bool) (f:V->V) (ha:∀ R:V->Hp->Prop,(∀ a H1,Yg H H1->aA K H1 a xs->R (.ref a) H1)->tl σ H R) (hlen:xs.length<=100000)
  (test:∀ x H',x∈xs->Yg H H'->∀ R:Bool->Hp->Prop,(∀ aJ,Yg H' aJ->R (p x) aJ)->tt (some x::YJ src σ) H' R)
  (step:∀ x H',x∈xs->p x=true->Yg H H'->∀ R:VK,(∀ aJ,Yg H' aJ->R (f x) aJ)->te (some x::YJ src σ) H' R)
  (fin:∀ D H',H D=none->Yg H H'->H' D=some (.lst ((xs.filter p).map f))->Q (.ref D) H'):je (none::src) (Wf K tl) (YW 0) tt te σ H Q :=
 ha _ fun a H1 s1 hS=>⟨a,rfl,⟨xs,hS⟩,fun D hD=>Yfl (XV.imp fun H' (e:Yg H1 H')=>e.seq hS) p f (fun _ e=>e) hD hlen (fun x H' hx sm R r=>test x H' hx (s1.trans sm) R r) (fun x H' hx hp sm R r=>step x H' hx hp (s1.trans sm) R r) fun H' sm=>fin D H' (s1.free hD) (s1.trans sm)⟩
end
section
variable {X:Cx} {K:Ι}
theorem UZ (h:X.K=K:=by rfl):vh X (vo K):=by subst h;exact Yw
theorem Ws (h:X.K=K:=by rfl):vg X (vp K):=by subst h;exact WN
end
theorem QE (its:List Α):slicePick its.toArray none none (some (-1))=its.reverse.toArray:=by
 unfold slicePick;have hb:cE none none (some (-1)) its.toArray.size=((its.length:Int) - 1,-1,-1):=by simp [cE]
 rw [hb];have hr:sliceRange ((its.length:Int) - 1) (-1) (-1)=(a9 its.length).map fun (k:Nat)=>its.length - 1 - k:=by
  unfold sliceRange;simp only [show ¬ ((-1:Int)>0) by decide,if_false];have hc:(if (its.length:Int) - 1 > -1 then ((its.length:Int) - 1 - -1 - -1 - 1) / - -1 else 0).toNat=its.length:=by
   split
   ·have:((its.length:Int) - 1 - -1 - -1 - 1)=its.length:=by omega
    rw [this,show (- -1:Int)=1 from rfl,Int.ediv_one];omega
   ·omega
  rw [hc]
  apply List.map_congr_left
  intro k hk;have:k<its.length:=gh.mp hk;omega
 simp only [hr]
 congr 1
 rw [List.filterMap_map]
 apply List.ext_getElem?
 intro i;have key:∀ (n:Nat),n<=its.length->(List.filterMap ((fun x=>its.toArray[x]?) ∘ fun k=>its.length - 1 - k) (a9 n))=its.reverse.take n:=by
  intro n
  induction n with
  | zero=>intro _;simp
  | succ n ih =>
   intro hn;rw [ie,List.filterMap_append,ih (by omega)];have hx:its.reverse[n]?=some (its[its.length - 1 - n]'(by omega)):=by
    rw [List.getElem?_reverse (by omega)];exact Λ _
   rw [Xl hx];have hlt:its.length - 1 - n<its.length:=by omega
   simp [hlt]
 rw [key its.length (Ν _)];rw [d0 (by simp)]
section
variable {X:Cx} {e st:Expr} {te ts:TE} {pos p2:Pos}
def uO (K:Ι) (te ts:TE):TE:=fun σ H Q=>te σ H fun x H1=>ts σ H1 fun y H2=>y = .int (-1)/\∃ a xs,x = .ref a/\aA K H2 a xs/\∀ p,H2 p=none->Q (.ref p) (upd H2 p (.lst xs.reverse))
theorem Yf2 (he:PE X e te) (hs:PE X st ts):PE X (.Subscript e (.Slice none none (some st) p2) pos) (uO X.K te ts):=by
 intro pins s σ H Q I h;refine kK (aG (he pins s σ H _ I h) fun v s1 ⟨x,H1,I1,r1,q1⟩=>?_);refine wpAny_Slice ?_;rw [kC];refine Ο (Ο ?_);rw [ku];refine aG (hs pins s1 σ H1 _ I1 q1) fun u s2 ⟨y,H2,I2,r2,q2⟩=>?_
 obtain ⟨rfl,a,xs,rfl,hx,q⟩:=q2;obtain ⟨t,rfl⟩:=r2
 cases r1
 have I4:Inv X pins σ H2 { s2 with heap:=s2.heap.push { cls := .type "slice",data := .fields #[.none,.none,.int (-1) t] } }:=I2.kept (t':=s2.toks) fun b ob q=>Ζ _ q
 obtain ⟨its,r,ht,hz⟩:=I4.list hx;have hlen:=r.length;have hg:=wpAny_getItem_list_slice (prog:=X.prog) (w:=X.w) (A:=X.A) (E:=X.xe) (Q:=EP X pins σ Q) ht.isList (Heap.IsSliceOf.new ..) .none .none (.int (-1) t) (by decide) (by
  rw [QE];refine ⟨.ref _,_,I4.laid (t':=_) (o := .lst xs.reverse) (fun b ob q=>Ζ _ q) (Ν _) ?_,rfl,q _ (I4.hok.fresh (Ν _))⟩;exact ⟨by rw [List.length_reverse];exact hz,_,0,r.reverse,δ _ rfl⟩) (by rw [ς]<;>omega)
 exact tail_any (ops:=[.ref a,.ref s2.heap.objs.size]) ht.isList.typeIs slot_list_getitem.lookup hg (by with_unfolding_all rfl)
end
section
variable {X:Cx} {pos:Pos}
theorem Yf3:cu X (bj .Is) (fun x y H Q=>∃ a b,x = .bl a/\y = .bl b/\Q (.bl (a==b)) H):=by
 intro pins s σ H x y v u Q I rx ry h;obtain ⟨a,b,rfl,rfl,q⟩:=h
 cases rx
 cases ry
 exact is_bool ⟨.bl _,H,I,rfl,q⟩
def zT:V->List V->Hp->VK->Prop:=fun x vs H Q=>∃ i,x = .int i/\vs=[]/\Q (.int (eQ i:Nat)) H
theorem Yfm:vm X "int.bit_length" zT:=by
 intro pins s σ H x vs v us Q I rx r h;obtain ⟨i,rfl,rfl,q⟩:=h;obtain ⟨t,rfl⟩:=rx
 cases r
 exact call_gives F.slot_int_bit_length (typeIs_int s i t) F.entry_int_bit_length (F.args_int_bit_length_1 _) (AutoIntG2.int_bit_length_int_0 i t) ⟨.int _,H,I.tok _,⟨_,rfl⟩,q⟩
def Kr:V->List V->Hp->VK->Prop:=fun x vs H Q=>∃ (z y:Str),x = .str z/\vs=[.str y]/\Q (.int (Txt.find z y)) H
def Ks:TE:=fun _ H Q=>∀ p,H p=none->Q (.ref p) (upd H p (.dK []))
end
def Gx.mZ (g:Gx) (x:Str) (xs:List V):Prop:=∃ c,g.mg x=some (.ref c)/\∀ H,aq g.K H c xs
theorem Yfn {K:Ι} {h:Heap} {mg:Str->Option Α} {x:Str} {i:Addr} {dc:Option Addr} {its:Array Α} {n:Nat} {sl:Array (Option Α)} {xs:List V} (X:K.In h) (G:h.Ns aw mg)
  (a:W.nsIn K aw x=some (some (.ref i))) (l:K.lookup i=some ⟨.type "tuple",dc,.seq its n,sl⟩) (hz:its.size<=sizeLine) (r:Yz xs its.toList):∀ P w base,(Gx.mk P w K mg base).mZ x xs :=
 fun P w base=>⟨i,W.mg_of X G a,fun H => .inr ⟨_,its,n,l,rfl,rfl,hz,r⟩⟩
section
variable {X:Cx} {g:Gx} {x:Str} {pos:Pos}
def zU (K:Ι) (xs:List V):TE:=fun _ H Q=>∀ c,aq K H c xs->Q (.ref c) H
theorem Ku {xs:List V} (F:g.mZ x xs) (hX:X.gx=g) (hg:Gl X x) (hd:(x==("__debug__":Str))=false):PE X (.Name x pos) (zU g.K xs):=by
 subst hX;obtain ⟨c,e,hc⟩:=F;exact fun pins s σ H Q I h=>Jv hg e (show YH (.ref c) (.ref c) from rfl) hd pins s σ H Q I (h c (hc H))
end
theorem YC {c A B:Prop} [Decidable c] (h:¬ c) (hb:B):if c then A else B:=by rw [if_neg h];exact hb
theorem Y3 {c A B:Prop} [Decidable c] (h:c) (ha:A):if c then A else B:=by rw [if_pos h];exact ha
section
variable {X:Cx}
def Il (i j:Int):Prop:=QO i j\/uE i j
theorem U0:cu X (gs .Mult) (rI Il fun i j => .int (i*j)):=pD fun _ _ _ _ _ _ _ hc q=>mul_int q (hc.elim (fun h=>h.ok) fun h=>h.ok)
end
end L2
namespace L2
open PySem PySem.Calls PySem.Spec PyProof.Rows PyProof.V
theorem YbS:kH (.type "zip") "__len__"=pure none:=by rw [typeLookup_type,builtinLookup_eq_fast];kernel_rfl
theorem YaD:kH (.type "zip") "__length_hint__"=pure none:=by rw [typeLookup_type,builtinLookup_eq_fast];kernel_rfl
section
variable {prog:Ρ} {w:Ω} {A:η} {E:Α->Β->Prop} {s:Β} {z TI TO i1 i2 p1 p2:Addr} {xs ys:List Α}
theorem YdO (hT:s.TypeIs (.ref z) "zip") {Q:Bool->Β->Prop} (h:Q true s):Μ (Ξ prog w) A (Builtin.List.listLengthHint (.ref z)) Q E s:=by
 unfold Builtin.List.listLengthHint;refine Δ (fg hT YbS ?_)
 show Μ _ _ (specialOf (.ref z) "__length_hint__" >>= _) _ _ _
 refine Δ (fg hT YaD ?_);exact Ο h
end
end L2
namespace L2
open PySem PySem.Spec PyProof.Rows
section
variable {X:Cx} {pins:List (Addr×Obj)} {σ:St} {H H':Hp} {s:Β} {h':Heap}
theorem Inv.yt {t':Nat} {ch:List Addr} (I:Inv X pins σ H s) (k:∀ b o,b∉ch->s.heap.get? b=some o->h'.get? b=some o) (hf:∀ b∈ch,We X pins H b) (up:∀ b u,H b=some u->H' b=some u)
  (nw:∀ b u,H' b=some u->H b=none->s.heap.objs.size<=b/\YO X.prog X.w H' h' b u):Inv X pins σ H' { s with heap:=h',toks:=t' }:=by
 have ji:∀ b u,H b=some u->b∉ch:=fun b u e z=>by rw [(hf b z).1] at e;cases e
 refine I.step (g':=s.gens) (d':=s.drawn) (ch:=ch) (fun b hb=>?_) (fun b o _ _ hc e _=>k b o hc e) (fun b o _ _ hc e _=>⟨o.slots,k b o hc e⟩) (fun b o _ e n=>?_)
  (fun b o hc e=>⟨o,k b o hc e⟩) (fun b xs e=>up b _ e) (fun b o u e=>up b _ e) (fun b ps e=>⟨#[],by rw [up b _ e];simp⟩) (fun m hm=>?_) (fun b u e=>?_) I.bare
 ·obtain ⟨f0,f1,f2,f3,f4,f5⟩:=hf b hb
  exact ⟨f3,f1,f4,f5⟩
 ·cases q:H' b with
  | none=>rfl
  | some u=>exact absurd (Φ e) (Nat.not_lt.mpr (nw b u q n).1)
 ·obtain ⟨o,es,ep,ho,r⟩:=hm
  exact ⟨o,es,ep,k _ o (fun z=>(hf _ z).2.1 rfl) ho,r⟩
 ·cases q:H b with
  | none=>exact (nw b u e q).2
  | some v =>
   have q':=up b v q;rw [e] at q'
   cases q'
   refine (I.hok b u q).stay (fun c v hc q3=>k c v ?_ q3) (fun c q=>up c _ q) fun c xs q=>up c _ q
   rcases hc with z | z
   ·rw [z];exact ji b u q
   ·exact ji c _ z
end
section
variable {X:Cx}
def Kv (K:Ι) (ta:TA):TE:=fun σ H Q=>ta σ H fun vs H1=>∃ a b xs ys,vs=[.ref a,.ref b]/\aq K H1 a xs/\aq K H1 b ys/\xs.length=ys.length /\
 ∀ (l:Addr) (as:List Addr) (H2:Hp),H1 l=none->Yg H1 H2->H2 l=some (.lst (as.map V.ref))->as.length=xs.length ->
  (∀ (j:Nat) a x y,as[j]?=some a->xs[j]?=some x->ys[j]?=some y->H1 a=none/\H2 a=some (.tup [x,y]))->Q (.ref l) H2
end
section
variable {src:List (Option Nat)} {te:TE} {σ:St} {H:Hp} {Q:VK}
theorem Yfo {J:It} {P:Hp->Prop} {xs:List V} (hJ:XU J P xs) {H1:Hp} {D:Addr} (ts:List (List V)) (hP:∀ H',Yg H1 H'->P H') (hD:H1 D=none) (hl:ts.length=xs.length) (hlen:xs.length<=100000)
  (step:∀ (i:Nat) x t H',xs[i]?=some x->ts[i]?=some t->Yg H1 H'->∀ R:VK,(∀ a aJ,Yg H' aJ->aJ a=some (.tup t)->R (.ref a) aJ)->te (some x::YJ src σ) H' R)
  (fin:∀ (as:List Addr) H',Yg H1 H'->H' D=some (.lst (as.map V.ref))->as.length=xs.length->(∀ (j:Nat) a t,as[j]?=some a->ts[j]?=some t->H' a=some (.tup t))->Q (.ref D) H'):LC (none::src) J (YW 0) Wj te σ H1 Q D:=by
 have h6:100000<sizeLine:=by decide
 refine UG hJ (fun i zs σ' H'=>∃ as:List Addr,zs=as.map V.ref/\as.length=i/\(∃ o,σ'=o::YJ src σ)/\Yg H1 H'/\H' D=some (.lst zs)/\∀ (j:Nat) a t,as[j]?=some a->ts[j]?=some t->H' a=some (.tup t))
  ⟨[],rfl,rfl,⟨none,rfl⟩,.aj hD _,Yb,fun j a t h=>by simp at h⟩ (fun i zs σ' H' ⟨as,_,_,_,p1,p2,_⟩=>⟨hP _ p1,p2⟩) (Wk 0) ?_ ?_
 ·rintro i zs σ' H' x hx ⟨as,rfl,hi',⟨o,rfl⟩,sm,hd,hts⟩
  have hi:=(Η.mp hx).1;have ht:ts[i]?=some (ts[i]'(by omega)):=Λ _
  show te (some x::YJ src σ) H' _
  refine step i x _ H' hx ht sm _ fun a aJ s2 ha=>⟨s2 _ _ hd,by rw [Θ];omega,as++[a],by simp,by simp [hi'],⟨_,rfl⟩,.cO hD (sm.trans s2) _,Yb,fun j b t hj hjt=>?_⟩
  have key:aJ b=some (.tup t):=by
   rcases Nat.lt_trichotomy j as.length with h1 | h1 | h1
   ·rw [υ h1] at hj
    exact s2 _ _ (hts j b t hj hjt)
   ·have hb:a=b:=by subst h1;simpa using hj
    subst hb;rw [h1,hi'] at hjt
    rw [ht] at hjt
    cases hjt
    exact ha
   ·rw [List.getElem?_eq_none (by rw [Κ,ω];omega)] at hj;cases hj
  rw [Ye (YE key (s2 _ _ hd) (by intro z;cases z))];exact key
 ·rintro zs σ' H' ⟨as,rfl,hn,_,sm,hd,hts⟩
  exact fin as H' sm hd hn hts
theorem Q7 {K:Ι} {tl:TE} {xs:List V} (ts:List (List V)) (ha:∀ R:V->Hp->Prop,(∀ a H1,Yg H H1->aA K H1 a xs->R (.ref a) H1)->tl σ H R) (hl:ts.length=xs.length) (hlen:xs.length<=100000)
  (step:∀ (i:Nat) x t H',xs[i]?=some x->ts[i]?=some t->Yg H H'->∀ R:VK,(∀ a aJ,Yg H' aJ->aJ a=some (.tup t)->R (.ref a) aJ)->te (some x::YJ src σ) H' R)
  (fin:∀ D (as:List Addr) H',H D=none->Yg H H'->H' D=some (.lst (as.map V.ref))->as.length=xs.length->(∀ (j:Nat) a t,as[j]?=some a->ts[j]?=some t->H' a=some (.tup t))->Q (.ref D) H'):je (none::src) (Wf K tl) (YW 0) Wj te σ H Q :=
 ha _ fun a H1 s1 hS=>⟨a,rfl,⟨xs,hS⟩,fun D hD=>Yfo (XV.imp fun H' (e:Yg H1 H')=>e.seq hS) ts (fun _ e=>e) hD hl hlen (fun i x t H' hx ht sm R r=>step i x t H' hx ht (s1.trans sm) R r) fun as H' sm=>fin D as H' (s1.free hD) (s1.trans sm)⟩
end
section
variable {X:Cx}
theorem YdP {i:Nat} {x:Str} {pos':Pos} {pins:List (Addr×Obj)} {σ:St} {D0:Ends} (hN:X.N.Nodup) (hix:X.N[i]?=some x) (hlx:Loc X.env.scope x) (hf:X.fn x=true\/X.env.scope.names.lookup x=some .local) (D C:Addr) (s6:Β) (H5:Hp)
  (fi:∀ h',cy C s6.heap h'->Inv X pins σ H5 { s6 with heap:=h' }) (hn:∃ m,s6.heap.Ns C m) (hCn:H5 C=none) (hC:∀ {H':Hp},H' C=none->We X pins H' C) (qn:D0.nx (σ.set i (some (.ref D))) H5) :
  compPost (Ξ X.prog X.w) X.A X.xe (some fun v=>assignAll v ((iL [.Name x pos'] X.env).map (·.2))) (fun _ s'=>Μ (Ξ X.prog X.w) X.A (pure PUnit.unit) (fun _ s'=>Μ (Ξ X.prog X.w) X.A (pure Flow.next) (SP X pins D0) X.xe s') X.xe s') (.ref D) C (.ok .next) s6:=by
 obtain ⟨m,oC,es,ep,hoC,rC⟩:=hn;have IO:Inv X pins σ H5 s6:=fi s6.heap (Heap.SameBut.refl _ _);have IP:=IO.pinned (fp:=[C]) (fun b hb=>by rw [ε.mp hb];exact hC hCn) (fun b hb=>by rw [ε.mp hb];exact ⟨oC,hoC,fun v z=>by (rw [rC.1] at z;cases z)⟩)
 show Μ _ _ (assign (.Name x pos') X.env (.ref D)) _ _ _
 refine aG (YD hN hix hlx hf _ s6 σ H5 (.ref D) (.ref D) _ IP rfl qn) fun _ s7 ⟨iB,H7,I7,q7⟩=>?_
 obtain ⟨g1,g2,_⟩:=I7.pin (C,oC) (ay _ (ay _ (Wg (ε.mpr rfl) hoC)));refine ⟨m,⟨oC,es,ep,g1,rC⟩,fun h' sb=>Ο (Ο ⟨iB,H7,?_,q7⟩)⟩;exact I7.gj.yr (t':=s7.toks) (ch:=[C]) (fun b o hb e=>sb.extBut b o (fun z=>hb (by rw [z];exact ε.mpr rfl)) e) (fun b hb=>by rw [ε.mp hb];exact hC g2)
theorem Kw {i:Nat} {x:Str} {pos' apos:Pos} {elt tg iter:Expr} {ifs:List Expr} {scope:da} {pos:Pos} {src:List (Option Nat)} {N':List Str} {wi:TI} {g:TG} {tt:TT} {te:TE} (hN:X.N.Nodup) (hix:X.N[i]?=some x) (hlx:Loc X.env.scope x) (hcap:iC X scope src N') (hc:X.calm=true) (hi:PI X tg iter wi)
  (hg:∀ cl C s₀ H₀ fp pn,PG (dW X scope N' cl C s₀ H₀ fp pn) tg g) (ht:∀ cl C s₀ H₀ fp pn,rA (dW X scope N' cl C s₀ H₀ fp pn) ifs tt) (he:∀ cl C s₀ H₀ fp pn,PE (dW X scope N' cl C s₀ H₀ fp pn) elt te)
  (hfree:∀ x,(x,ag)∈scope.names->X.env.scope.names.lookup x=some eT\/X.env.scope.names.lookup x=some ag)
  (hk:scope.kind = .function) (hcell:∀ y∈scope.names,y.2 ≠ .cell) (hnames:∀ y∈scope.names,y.2 = .local->scope.names.lookup y.1=some .local)
  (hs:∀ x,foldedSetIterable iter X.env x=pure x) (hsw:swapsWithSole [.Name x pos'] (.ListComp elt [⟨tg,iter,ifs,0⟩] scope pos) apos.line X.env=pure true) (hf:X.fn x=true\/X.env.scope.names.lookup x=some .local) :
  PS X (.Assign [.Name x pos'] (.ListComp elt [⟨tg,iter,ifs,0⟩] scope pos) apos) (u9 (je src wi g tt te) (YW i)):=by
 intro pins s σ H D0 I h;obtain ⟨cl,hcl,a,b⟩:=UF X.env scope fun x hx=>I.ok.has x (hfree x hx)
 rw [exec_Assign_arm];refine Δ (eR ?_);rw [hsw];refine Δ (Ο ?_);rw [if_pos rfl];refine Δ ?_;rw [arm_evalThenUse_ListComp];refine Δ ?_;refine wpAny_comprehension_free (use:=some _) rfl hs hcl hk hnames (aG (hi pins s σ H _ I h) fun v s1 h1=>aG h1 fun itv s2 h2=>?_);exact Q5 (Po:=fun v C=>compPost (Ξ X.prog X.w) X.A X.xe (some fun v=>assignAll v ((iL [.Name x pos'] X.env).map (·.2))) (fun _ s'=>Μ (Ξ X.prog X.w) X.A (pure PUnit.unit) (fun _ s'=>Μ (Ξ X.prog X.w) X.A (pure Flow.next) (SP X pins D0) X.xe s') X.xe s') v C) (Z:=fun _ _ _ _ _ _ _=>False) hcap hc (hg cl) (ht cl) (he cl) hk hcell a b h2 (YdP hN hix hlx hf) fun _ _ _ _ _ _ _ _ z=>z.elim
end
def YM {α:Type}:Sem α->Prop
 | .pure _=>True
 | .raise _=>True
 | .unsupported _=>True
 | .rule _ k=>YM (k ())
 | .at _ k=>YM (k ())
 | .load _ _ k=>∀ o,YM (k o)
 | .update _ _ f k=>(∀ o:Obj,(f o).dict=o.dict/\(f o).isFreed=o.isFreed)/\YM (k ())
 | .alloc _ k=>∀ a,YM (k a)
 | .stack k=>∀ x,YM (k x)
 | _=>False
def XB (h:Heap) (e:Addr) (dc:Option Addr):Prop:=∃ o,h.get? e=some o/\o.dict=dc
theorem YcT {α β:Type} {f:α->Sem β} (m:Sem α):YM m->(∀ a,YM (f a))->YM (m.bind f):=by
 induction m with
 | pure a=>intro _ hf;exact hf a
 | raise e=>intro _ _;simp only [i8,YM]
 | unsupported e=>intro _ _;simp only [i8,YM]
 | rule n k ih=>intro h hf;simp only [YM] at h;simp only [i8,YM];exact ih () h hf
 | «at» n k ih=>intro h hf;simp only [YM] at h;simp only [i8,YM];exact ih () h hf
 | load a b k ih=>intro h hf;simp only [YM] at h;simp only [i8,YM];exact fun o=>ih o (h o) hf
 | update a b g k ih=>intro h hf;simp only [YM] at h;simp only [i8,YM];exact ⟨h.1,ih () h.2 hf⟩
 | alloc a k ih=>intro h hf;simp only [YM] at h;simp only [i8,YM];exact fun o=>ih o (h o) hf
 | stack k ih=>intro h hf;simp only [YM] at h;simp only [i8,YM];exact fun o=>ih o (h o) hf
 | _=>intro h;simp only [YM] at h
theorem Yfp {M:Model} {Γ:PySem.Ctx} {α:Type} {Q:α->Pos->Β->Prop} {E:Α->Pos->Β->Prop} {e:Addr} {dc:Option Addr} (t:Sem α):YM t->∀ (p:Pos) (s:Β),iX M Γ t Q E p s->XB s.heap e dc->iX M Γ t (fun a p s'=>Q a p s'/\XB s'.heap e dc) (fun v p s'=>E v p s'/\XB s'.heap e dc) p s:=by
 induction t with
 | pure a=>intro _ p s h d;simp only [iX] at h ⊢;exact ⟨h,d⟩
 | raise a=>intro _ p s h d;simp only [iX] at h ⊢;exact ⟨h,d⟩
 | unsupported a=>intro _ p s h d;simp only [iX] at h
 | rule n k ih=>intro t p s h d;simp only [YM] at t;simp only [iX] at h ⊢;exact ih () t p s h d
 | «at» n k ih=>intro t p s h d;simp only [YM] at t;simp only [iX] at h ⊢;exact ih () t n s h d
 | load a b k ih=>intro t p s h d;simp only [YM] at t;simp only [iX] at h ⊢;obtain ⟨o,h1,h2⟩:=h;exact ⟨o,h1,ih o (t o) p s h2 d⟩
 | update a b f k ih =>
  intro t p s h d;simp only [YM] at t;simp only [iX] at h ⊢;obtain ⟨o,d1,d2⟩:=d;refine ⟨h.1,ih () t.2 p _ h.2 ?_⟩;by_cases c:a=e
  ·subst c
   exact ⟨f o,c5 f d1 (by rw [(t.1 o).2];exact (Heap.get?_some_iff.mp d1).2),by rw [(t.1 o).1];exact d2⟩
  ·exact ⟨o,(dm _ _ c).trans d1,d2⟩
 | alloc a k ih=>intro t p s h d;simp only [YM] at t;simp only [iX] at h ⊢;obtain ⟨o1,d1,d2⟩:=d;exact ih _ (t _) p _ h ⟨o1,Ζ _ d1,d2⟩
 | stack k ih=>intro t p s h d;simp only [YM] at t;simp only [iX] at h ⊢;exact ih _ (t _) p s h d
 | _=>intro t;simp only [YM] at t
theorem Wt {M:Model} {A:η} {α:Type} {t:Sem α} {Q:α->Β->Prop} {E:Α->Β->Prop} {s:Β} {e:Addr} {dc:Option Addr} (T:YM t) (d:XB s.heap e dc) (h:Μ M A t Q E s):Μ M A t (fun a s'=>Q a s'/\XB s'.heap e dc) (fun v s'=>E v s'/\XB s'.heap e dc) s :=
 fun Γ p hΓ=>Yfp t T p s (h Γ p hΓ) d
theorem Y1 {α β:Type} {m:Sem α} {f:α->Sem β} (h:YM m) (hf:∀ a,YM (f a)):YM (m >>= f):=YcT m h hf
theorem Vk {α:Type} (a:α):YM (pure a:Sem α):=trivial
theorem Yf4 {α:Type} (x:String):YM (unsupported x:Sem α):=trivial
theorem YbT:YM stack:=fun _=>trivial
theorem YdQ (a:Addr) (f:Obj->Obj) (h:∀ o:Obj,(f o).dict=o.dict/\(f o).isFreed=o.isFreed):YM (update a f):=⟨h,trivial⟩
theorem QF (v:Α):YM (fieldsOf v):=by
 unfold fieldsOf
 cases v<;>first | trivial | skip
 refine Y1 (fun o=>trivial) fun o=>?_
 cases o.data<;>trivial
theorem WL (v:Α) (i:Nat):YM (field v i):=by
 unfold field;refine Y1 (QF v) fun vs=>?_
 cases vs[i]?<;>trivial
theorem RT (f:Array Α->Array Α) (o:Obj):(Obj.mapFields f o).dict=o.dict/\(Obj.mapFields f o).isFreed=o.isFreed:=by
 obtain ⟨c,d,dt,sl⟩:=o
 cases dt<;>exact ⟨rfl,rfl⟩
theorem Uo (a:Addr) (i:Nat) (v:Α):YM (updateField a i v):=by
 unfold updateField;refine Y1 (fun o=>trivial) fun o=>?_
 cases o.data with
 | fields vs =>
  dsimp only
  split
  ·exact ⟨RT _,trivial⟩
  ·trivial
 | _=>trivial
theorem X5 (v:Α) (i:Nat) (x:Α):YM (setField v i x):=by
 unfold setField
 cases v<;>first | trivial | exact Uo _ _ _
theorem Wu (v:Α) (f:Option Addr):YM (setFlight v f):=by
 unfold setFlight;refine Y1 (WL _ _) fun tb=>?_
 split
 ·exact X5 _ _ _
 ·trivial
theorem QG (env:Env) (b:Bool) (l:List Env):YM (keptBack env b l):=by
 cases l with
 | nil =>
  rw [keptBack];by_cases c:(env.scope.isGenerator||env.scope.isCoroutine)=true
  ·rw [if_pos c];exact Vk _
  ·rw [if_neg c]
   refine Y1 ?_ fun x=>Vk _
   unfold underTheClaimsCaller;exact Y1 YbT fun x=>Vk _
 | cons x r=>rw [keptBack];exact Vk _
theorem UJ:∀ l:List Env,YM (readyFrames l)
 | []=>trivial
 | env::outer=>by
  unfold readyFrames
  cases env.frame with
  | none=>trivial
  | some f =>
   dsimp only;refine Y1 (fun o=>trivial) fun o=>?_
   split
   ·trivial
   ·refine Y1 ?_ fun b=>Y1 (QG _ _ _) fun k=>Y1 (YdQ _ _ fun o=>by obtain ⟨c,d,dt,sl⟩:=o;cases dt<;>exact ⟨rfl,rfl⟩) fun _=>UJ outer
    unfold behindIsImport
    split
    ·trivial
    ·split
     ·trivial
     ·exact Y1 (WL _ _) fun x=>trivial
theorem VT (env:Env):YM (PySem.frameOf env):=by
 unfold PySem.frameOf frameEnvs;refine Y1 (Y1 (fun x=>trivial) fun x=>trivial) fun l=>?_
 generalize l.dropWhile _=l';refine Y1 ?_ fun r=>?_
 ·cases l' with
  | nil=>trivial
  | cons x r =>
   unfold frameObject;exact Y1 (UJ _) fun _=>trivial
 ·cases r<;>trivial
theorem U1 (ty:String) (vs:List Α):YM (newFields ty vs):=by
 unfold newFields newObj;dsimp only
 split
 ·exact Y1 (Yf4 _) fun _=>Y1 (fun _=>trivial) fun _=>Vk _
 ·exact Y1 (m:=alloc _) (fun _=>trivial) fun _=>Vk _
theorem VG (a b c d e:Α) (pl:List Α):YM (EntryCells.newEntry a b c d e pl):=U1 _ _
theorem UK (f:Addr) (b:Bool):YM (entryPlaceOf f b):=by
 unfold entryPlaceOf;refine Y1 (fun x=>trivial) fun l=>?_
 split<;>trivial
theorem Vl (e:Α) (env:Env):YM (noteFrame e env):=by
 unfold noteFrame
 cases env.frame with
 | none=>trivial
 | some f =>
  dsimp only;refine Y1 (WL _ _) fun hd=>?_
  split
  ·refine Y1 (WL _ _) fun x=>?_
   split
   ·trivial
   ·exact Y1 (X5 _ _ _) fun _=>Y1 (VT _) fun _=>Y1 (UK _ _) fun _=>Y1 (VG _ _ _ _ _ _) fun _=>X5 _ _ _
  ·exact Y1 (VT _) fun _=>Y1 (UK _ _) fun _=>Y1 (VG _ _ _ _ _ _) fun _=>X5 _ _ _
theorem WT (env:Env) (e:Α):YM (leaving env e):=by
 unfold leaving;exact Y1 (Vl _ _) fun _=>Wu _ _
structure dH (P:Ρ) (w:Ω) (l:List Env) (H:Hp) (h:Heap) (e:Addr) (cls:Α) (H':Hp) (h' B:Heap):Prop where
 fl:∃ a0,kU B l e cls a0 h'
 hok:bD P w H' B
 keep:∀ b o,h.get? b=some o->H b=none->b∉frs l->B.get? b=some o
 slot:∀ b o,h.get? b=some o->H b=none->b∈frs l->∃ sl,h'.get? b=some { o with slots:=sl }
 al:∀ b o,h.get? b=some o->b∉frs l->∃ o',B.get? b=some o'
 free:∀ b o,h.get? b=some o->H b=none->H' b=none
 tups:∀ b xs,H b=some (.tup xs)->H' b=some (.tup xs)
 bF:∀ b o u,H b=some (.cM o u)->H' b=some (.cM o u)
 cJ:∀ b ps,H b=some (.aU ps)->∃ more,H' b=some (.aU (ps++more))
section
variable {P:Ρ} {w:Ω} {l:List Env} {H H':Hp} {h h' h'' B:Heap} {e:Addr} {cls:Α}
theorem dH.un (F:dH P w l H h e cls H' h' B) (hf:∀ b∈frs l,H b=none):Un (frs l) [] H H' h h':=by
 obtain ⟨a0,fl⟩:=F.fl;refine ⟨fun b o q n hb _=>fl.1 b o (F.keep b o q n hb),fun b o q n hb _=>F.slot b o q n hb,fun b o q n _=>F.free b o q n,fun b o q _=>?_,F.tups,F.bF,F.cJ⟩;by_cases hb:b∈frs l
 ·obtain ⟨sl,z⟩:=F.slot b o q (hf b hb) hb
  exact ⟨_,z⟩
 ·obtain ⟨o',z⟩:=F.al b o q hb
  exact ⟨o',fl.1 b o' z⟩
theorem dH.held (F:dH P w l H h e cls H' h' B):bD P w H' h':=by
 obtain ⟨a0,fl⟩:=F.fl;exact F.hok.kept fl.1
theorem dH.on (F:dH P w l H h e cls H' h' B) (fl:∃ a0,kU B l e cls a0 h'') (nf:∀ b∈frs l,∀ o,h.get? b=some o->∀ vs,o.data ≠ .fields vs) (sm:h'.UpToSlots h''):dH P w l H h e cls H' h'' B :=
 ⟨fl,F.hok,F.keep,fun b o q n hb=>by
  obtain ⟨sl,z⟩:=F.slot b o q n hb;obtain ⟨sl',z'⟩:=sm b _ z (nf b hb o q);exact ⟨sl',z'⟩,F.al,F.free,F.tups,F.bF,F.cJ⟩
end
section
variable {X:Cx} {pins:List (Addr×Obj)} {σ:St} {H H':Hp} {s s':Β} {h' B:Heap} {e:Addr} {cls:Α} {M:Model} {A:η} {Q:Unit->Β->Prop} {EE:Α->Β->Prop}
theorem Inv.qg (I:Inv X pins σ H s) {b:Addr} {o:Obj} (q:X.s₀.heap.get? b=some o):b≠X.env.locals:=ρ (χ (Φ q) I.ok.above)
theorem Inv.jk (I:Inv X pins σ H s) (hf:X.env.frame=some X.env.locals) {b:Addr} {o:Obj} (q:X.s₀.heap.get? b=some o) (n:b∉X.fs):b∉frs (X.env::X.outer):=fun z=>by
 unfold frs at z;rw [cS,hf] at z
 rcases Ψ.mp z with z | z
 ·exact I.qg q z
 ·exact n z
theorem Inv.Im (I:Inv X pins σ H s) (hf:X.env.frame=some X.env.locals) {b:Addr} (n:b∈X.fs):b∈frs (X.env::X.outer):=by
 unfold frs;rw [cS,hf];exact bb _ n
theorem Inv.qj {vs:List Α} (I:Inv X pins σ H s) (hs:X.stack=X.env::X.outer) (hf:X.env.frame=some X.env.locals) (hex:X.ex=[]) (hA:A.frames=some (X.env::X.outer)) (hm:km s.heap h' e cls vs)
  (hQ:∀ h'' B,dH X.prog X.w X.outer X.H₀ X.s₀.heap e cls H h'' B->XB h'' e none->Q () { s with heap:=h'' }):Μ M A (leaving X.env (.ref e)) Q EE { s with heap:=h' }:=by
 have nx:∀ b:Addr,b∉X.ex:=by
  rw [hex];intro b z
  cases z
 have st:=I.stack;have sf:=I.gb;rw [hs] at st sf
 have hd0:XB h' e none:=by
  obtain ⟨t,he,_⟩:=hm.there;exact ⟨_,he,rfl⟩
 refine aa (Wt (WT _ _) (s:={ s with heap:=h' }) hd0 (wpAny_leaves_madeW (Q:=fun _ s'=>∃ h'',s'={ s with heap:=h'' }/\dH X.prog X.w X.outer X.H₀ X.s₀.heap e cls H h'' (ic s.heap (frs (X.env::X.outer)))) (base:=ic s.heap (frs (X.env::X.outer))) (h:=s.heap) hA hf (fun b o q=>PySem.W.of_hideAll _ q) (PySem.W.funFrames_hide st fun env he a ha=>iq.mpr ⟨env,he,ha⟩) hm fun h'' t x1 x2 x3 x4=>⟨h'',rfl,?_⟩)) (fun _ s' z=>by
  obtain ⟨⟨h'',rfl,F⟩,d⟩:=z;exact hQ h'' _ F d) fun _ _ z=>z.1
 refine ⟨⟨_,x1⟩,fun b u q=>?_,fun b o q n nb=>dL _ (I.base.keep b o q n nb (nx b)) (I.jk hf q nb),fun b o q n hb=>?_,fun b o q nb=>?_,fun b o q n=>I.base.free b o q n (nx b),I.base.tups,I.base.bF,I.base.cJ⟩
 ·refine (I.hok b u q).stay (fun c v hc r=>dL _ r fun z=>?_) (fun _ z=>z) fun _ _ z=>z
  have n:=sf c z;rcases hc with rfl | hc
  ·rw [n] at q;cases q
  ·rw [n] at hc;cases hc
 ·obtain ⟨sl,e1⟩:=I.base.slot b o q n hb (nx b)
  obtain ⟨_,o',e',d⟩:=I.ok.dz.mem hb;rw [q] at e'
  cases e'
  obtain ⟨sl',e2⟩:=x4 b _ (hm.keeps b _ e1) d;exact ⟨sl',e2⟩
 ·obtain ⟨o',e1⟩:=I.base.there b o q (nx b)
  exact ⟨o',dL _ e1 (I.jk hf q nb)⟩
theorem Inv.uP (I:Inv X pins σ H s) (hs:X.stack=X.env::X.outer) (hf:X.env.frame=some X.env.locals) (hex:X.ex=[]) (hA:A.frames=some (X.env::X.outer)) (F:dH X.prog X.w X.stack H s.heap e cls H' s'.heap B) {dc:Option Addr} (hd:XB s'.heap e dc)
  (hQ:∀ h'',dH X.prog X.w X.outer X.H₀ X.s₀.heap e cls H' h'' B->XB h'' e dc->Q () { s' with heap:=h'' }):Μ M A (leaving X.env (.ref e)) Q EE s':=by
 have nx:∀ b:Addr,b∉X.ex:=by
  rw [hex];intro b z
  cases z
 rw [hs] at F
 obtain ⟨a0,fl⟩:=F.fl;refine aa (Wt (WT _ _) hd (wpAny_leaves_onW (Q:=fun _ s2=>∃ h'',s2={ s' with heap:=h'' }/\dH X.prog X.w X.outer X.H₀ X.s₀.heap e cls H' h'' B) hA hf fl fun h'' x1 x2=>⟨h'',rfl,?_⟩)) (fun _ s2 z=>by
  obtain ⟨⟨h'',rfl,F⟩,d⟩:=z;exact hQ h'' F d) fun _ _ z=>z.1
 refine ⟨⟨_,x1⟩,F.hok,fun b o q n nb=>F.keep b o (I.base.keep b o q n nb (nx b)) (I.base.free b o q n (nx b)) (I.jk hf q nb),fun b o q n hb=>?_,fun b o q nb=>?_,fun b o q n=>?_,fun b xs q=>F.tups b xs (I.base.tups b xs q),fun b o u q=>F.bF b o u (I.base.bF b o u q),fun b ps q=>?_⟩
 ·obtain ⟨sl,e1⟩:=I.base.slot b o q n hb (nx b)
  obtain ⟨sl1,e2⟩:=F.slot b _ e1 (I.base.free b o q n (nx b)) (I.Im hf hb);obtain ⟨_,o',e',d⟩:=I.ok.dz.mem hb;rw [q] at e'
  cases e'
  obtain ⟨sl',e3⟩:=x2 b _ e2 d;exact ⟨sl',e3⟩
 ·obtain ⟨o',e1⟩:=I.base.there b o q (nx b)
  exact F.al b o' e1 (I.jk hf q nb)
 ·obtain ⟨o',e1⟩:=I.base.there b o q (nx b)
  exact F.free b o' e1 (I.base.free b o q n (nx b))
 ·obtain ⟨m1,e1⟩:=I.base.cJ b ps q
  obtain ⟨m2,e2⟩:=F.cJ b _ e1;exact ⟨m1++m2,by rw [e2,Array.append_assoc]⟩
end
def m5 (P:Ρ) (w:Ω):gk:=fun l H s E e s'=>∃ (a:Addr) (cls:Α) (H':Hp) (B:Heap) (dc:Option Addr),e = .ref a/\s'.os=s.os/\hV s'.gens/\dH P w l H s.heap a cls H' s'.heap B/\XB s'.heap a dc/\E cls dc H'
abbrev Gx.dX (g:Gx) (N:List Str) (qual:Str) (st:Stmt) (f:Addr) (cdv:Α) (A:η) (outer:List Env) (s:Β) (H:Hp) (E:XK):Cx:=Wo (m5 g.P g.w) g.P g.w g.K g.mg g.base N qual (Yi st) f cdv A outer s H E
section
variable {g:Gx} {N:List Str} {qual:Str} {st:Stmt} {f:Addr} {cdv:Α} {A:η} {outer:List Env} {s:Β} {H:Hp} {E:XK}
theorem Ky:X1 (m5 g.P g.w) (g.dX N qual st f cdv A outer s H E) E:=by
 intro pins σ H1 s1 e s' I hq;obtain ⟨a,cls,H',B,dc,he,os,bare,F,hd,q⟩:=hq;subst he;exact I.uP rfl rfl rfl I.ok.frames F hd fun h'' F' hd'=>⟨a,cls,H',B,dc,rfl,os.trans I.os,bare,F',hd',q⟩
def Kz (X:Cx) (E:XK):Prop:=∀ (pins:List (Addr×Obj)) (σ:St) (H:Hp) (s:Β) (h':Heap) (e:Addr) (cls:Α) (vs:List Α),Inv X pins σ H s->km s.heap h' e cls vs->E cls none H->X.xe (.ref e) { s with heap:=h' }
theorem Yf5:Kz (g.dX N qual st f cdv A outer s H E) E:=by
 intro pins σ H1 s1 h' e cls vs I hm q;exact I.qj rfl rfl rfl I.ok.frames hm fun h'' B F hd=>⟨e,cls,H1,B,none,rfl,I.os,I.bare,F,hd,q⟩
end
def Gx.fV (g:Gx) (k:Nat) (x:Str) (ps:List Str) (sp:Sp):Prop:=∃ f fd,bG g.P g.w g.K g.mg g.base (m5 g.P g.w) k f fd ps sp/\Xh g.K fd ps []/\dP g.K (.ref f)=true/\g.mg x=some (.ref f)
def Io (g:Gx) (k:Nat) (N:List Str) (qual:Str) (st:Stmt) (sp:Sp):Prop:=∀ (f:Addr) (cdv:Α) (A:η) (outer:List Env) (s:Β) (H:Hp) (vs:List V) (Q:VK) (E:XK),aO k (g.dX N qual st f cdv A outer s H E).A->sp vs H Q E ->
 ∃ t,eH (g.dX N qual st f cdv A outer s H E) (YV st) t/\t { nx:=fun _ H'=>Q .non H',rt:=Q } (Xw N vs) H
section
variable {g:Gx} {k:Nat} {x qual m:Str} {st:Stmt} {N ps:List Str} {sp:Sp} {C:Addr}
theorem Gx.Raw.fnX (R:g.Raw x qual st ps) (S:ak N ps (Yi st)) (len:∀ vs H Q E,sp vs H Q E->vs.length=ps.length) (b:Io g k N qual st sp):g.fV (k+1) x ps sp:=by
 obtain ⟨f,fd,F,bd,hm⟩:=R;refine ⟨f,fd,?_,bd,F.kp,hm⟩;obtain ⟨oc,od,kV,doc,pm,an,cdv,ct,osl,rfl,lk,hcd⟩:=F.ex;exact zq lk hcd S len fun A outer s H vs Q E hr h=>b f cdv A outer s H vs Q E hr h
theorem Gx.fV.mono {j:Nat} (F:g.fV j x ps sp) (h:j<=k):g.fV k x ps sp:=by
 obtain ⟨f,fd,F,r⟩:=F;exact ⟨f,fd,F.mono h,r⟩
end
section
variable {g:Gx} {X:Cx} {k j:Nat} {x:Str} {ps:List Str} {sp:Sp} {E:XK} {e:Expr} {es:List Expr} {t:TA} {p pos cpos np:Pos}
theorem Q8 (F:g.fV j x ps sp) (hr:aO k X.A) (hp:X1 (m5 g.P g.w) X E) (ha:PA X (e::es) t) (hj:j<=k) (hX:X.gx=g) (hg:Gl X x) (hdb:(x==("__debug__":Str))=false)
  (he:Τ (e::es) X.env=(false,eval e X.env)::Τ es X.env) (hpl:(be pos (Τ es X.env)).any (·.1)=false):PE X (.Call (.Name x p) (e::es) [] pos) (V3 sp [] E t):=by
 subst hX;obtain ⟨f,fd,F,b,kp,hm⟩:=F;exact JW F (hr.mono hj) hg hm kp b .nil hp ha hdb he hpl
theorem PS.eZ {st:Stmt} {t:TS} (h:PS X.eZ st t):PS X st t:=fun pins s σ H D I hw =>
 aa (h pins s σ H D (I.wish _) hw) (fun _ _ q=>q.dM) fun _ _ z=>az z
abbrev WU:List Value:=[.type "ValueError",.type "Exception",.type "BaseException",.type "object"]
structure Gx.Exc (g:Gx) (x:Str) (C:Addr):Prop where
 bound:g.mg x=some (.ref C)
 own:W.excIn g.K C WU "ValueError.__new__"=true
theorem Yfq {K:Ι} {h:Heap} {C:Addr} {tl:List Α} {nw:String} (In:K.In h) (q:W.excIn K C tl nw=true) :
  ∃ (bm:List Α) (ns:Addr) (nm qn:Str) (bs:List Α) (hd:Bool) (sn:List Str) (sub:List Α) (ab:Bool) (col:Option Bool) (dd:Option Addr) (k0 k1 k2 k3 k5:Option Α) (mN:Str->Option Α),
   h.get? C=some (fo nm qn C ns bs bm hd sn sub ab col dd k0 k1 k2 k3 k5 nw)/\h.Ns ns mN/\mN "__init__"=none/\OwnTail h tl bm:=by
 unfold W.excIn at q
 split at q
 case h_2=>exact absurd q (by decide)
 case h_1 dd cd sl lk =>
  split at q
  case h_2=>exact absurd q (by decide)
  case h_1 c2 bm k0 k1 k2 k3 n k5 em es =>
   simp only [beq_iff_eq,c6,Bool.not_eq_true'] at q;obtain ⟨⟨⟨⟨⟨q1,q2⟩,q3⟩,q4⟩,q5⟩,q6⟩:=q;obtain ⟨nm,bs,mro,ns,qn,hd,sn,sub,ab,col,del⟩:=cd;obtain ⟨lst⟩:=sl;dsimp only at em q3 q5 q6 es;subst q1 q2 em q3 es;exact ⟨bm,ns,nm,qn,bs,hd,sn,sub,ab,col,dd,k0,k1,k2,k3,k5,_,In _ _ lk,.of_isNs (W.isNs_of_in In q5),W.nsMap_none_of_in In q5 q6,W.tail_of_in In q4⟩
def Q9 (C:Addr) (E:XK) (t:TA):TS:=fun _ σ H=>t σ H fun vs H1=>vs.length<=sizeLine/\E (.ref C) none H1
theorem YdR {C:Addr} (hC:g.Exc x C) (hR:Kz X E) (ha:PA X (e::es) t) (hc:X.calm=true) (hX:X.gx=g) (hg:Gl X x) (hdb:(x==("__debug__":Str))=false)
  (he:Τ (e::es) X.env=(false,eval e X.env)::Τ es X.env) (hpl:(be cpos (Τ es X.env)).any (·.1)=false) :
  PS X (.Raise (some (.Call (.Name x np) (e::es) [] cpos)) none pos) (Q9 C E t):=by
 subst hX;intro pins s σ H D I h;obtain ⟨bm,ns,nm,qn,bs,hd,sn,sub,ab,col,dd,k0,k1,k2,k3,k5,mN,hO,hN,hni,T⟩:=Yfq I.mod.jc hC.own;refine wpAny_Raise_call_subT (C:=C) (nm:=nm) (q:=qn) (N:=ns) (bs:=bs) (bm:=bm) (hdct:=hd) (sn:=sn) (sub:=sub) (ab:=ab) (col:=col) (dd:=dd) (k0:=k0) (k1:=k1) (k2:=k2) (k3:=k3) (k5:=k5)
  F.excBase_ValueError (mN:=mN) (T.hasType F.excBase_ValueError.hasBase) (I.ok.hd hc) ?_ hni (X8 I hg hC.bound ⟨rfl,?_⟩ hdb)
 ·rw [he]
  show (false||(be cpos (Τ es X.env)).any (·.1))=false
  rw [hpl];rfl
 ·have a1:=ha cpos pins s σ H _ I h
  rw [he] at a1 ⊢
  refine Calls.evalArgs_plain (aa a1 (fun us s2 hz=>?_) fun _ _ y=>y);obtain ⟨vs,H2,I2,r,q1,q2⟩:=hz;exact ⟨rfl,by rw [<- r.length];exact q1,I2.bk _ _ hO,hN.keeps I2.bk,T.keeps I2.bk,fun h' e hm=>hR pins σ H2 s2 h' e _ us I2 hm q2⟩
end
abbrev Cx.caught (X:Cx) (e:Addr):Cx:={ X with A:=X.A.mark (some (.ref e)),calm:=false,xe:=fun _ _=>False }
section
variable {X:Cx} {pins:List (Addr×Obj)} {σ:St} {H H' H1:Hp} {s s1 s':Β} {e:Α} {D:Ends} {ts:TS} {b₀:Stmt} {suite:List Stmt} {c:Str} {cv:Α} {cp hpos:Pos}
theorem Inv.caught (I:Inv X pins σ H s) (a:Addr):Inv (X.caught a) pins σ H s :=
 ⟨⟨I.ok.mod,I.ok.kind,I.ok.glob,I.ok.blt,I.ok.above,I.ok.inj,I.ok.has,I.ok.cab,fun z=>(by cases z),I.ok.frames,I.ok.stk,I.ok.uY,I.ok.bs,I.ok.gR,I.ok.jL,I.ok.kJ,I.ok.dz,I.ok.iz⟩,I.os,I.bare,I.base,I.loc,I.cell,I.free,I.aZ,I.pin,I.hok,I.len⟩
theorem Inv.uncaught {a:Addr} (hd:X.calm=true->X.A.handled=none) (I:Inv (X.caught a) pins σ H s):Inv X pins σ H s :=
 ⟨⟨I.ok.mod,I.ok.kind,I.ok.glob,I.ok.blt,I.ok.above,I.ok.inj,I.ok.has,I.ok.cab,hd,I.ok.frames,I.ok.stk,I.ok.uY,I.ok.bs,I.ok.gR,I.ok.jL,I.ok.kJ,I.ok.dz,I.ok.iz⟩,I.os,I.bare,I.base,I.loc,I.cell,I.free,I.aZ,I.pin,I.hok,I.len⟩
theorem Inv.seen {a:Addr} {cls:Α} {B:Heap} (I:Inv X pins σ H1 s1) (F:dH X.prog X.w X.stack H1 s1.heap a cls H' s'.heap B) (os:s'.os=s1.os) (bare:hV s'.gens):Inv X pins σ H' s' :=
 I.call' (ch:=[]) os (F.un I.gb) F.held bare fun b z=>nomatch z
theorem Inv.yu (I:Inv X pins σ H1 s1):∀ b∈frs X.stack,∀ o,s1.heap.get? b=some o->∀ vs,o.data ≠ .fields vs:=fun b hb o q=>by
 obtain ⟨_,o',e',d⟩:=I.stack.mem hb;rw [q] at e'
 cases e'
 exact d
end
def zV (K:Ι) (cv:Α) (sp:Sp) (t:TA) (i:Nat) (ts:TS):TS:=fun D σ H=>t σ H fun vs H1=>sp (vs++[]) H1 (fun v H2=>D.nx (σ.set i (some v)) H2) (fun cls _ H2=>ka K cls cv=some true/\ts D σ H2)
def U2 (k:Nat) (G:Hp->List V->Prop):It :=
 ⟨fun i H=>∃ xs x,G H xs/\xs[i]?=some x,fun i H v H'=>∃ T,v = .ref T/\H T=none/\∀ xs x,G H xs->xs[i]?=some x->H'=upd H T (.tup [.int ((i+k:Nat):Int),x]),fun i H=>∃ xs,G H xs/\xs.length=i⟩
theorem Ue {P:Ρ} {w:Ω} {A:η} {it:Addr} {fp:List Addr} {n:Nat} {R:Nat->Α->Prop} {St:Nat->Heap->Prop} (D:Draws P w A it fp n R St) (k:Nat) :
  Draws P w A it fp (n+k) (fun i v=>∃ j,i=j+k/\R j v) (fun i h=>∃ j,i=j+k/\St j h) where
 live:=fun i h ⟨j,_,st⟩=>D.live j h st
 frame:=fun i h h' ⟨j,e,st⟩ q=>⟨j,e,D.frame j h h' st q⟩
 item:=fun i s Q E hi ⟨j,e,st⟩ hQ=>by
  subst e;exact D.item j s Q E (by omega) st fun x h' tk p st' sb=>hQ x h' tk ⟨j,rfl,p⟩ ⟨j+1,by omega,st'⟩ sb
 done:=fun s Q E ⟨j,e,st⟩ hE=>by
  have:j=n:=by omega
  subst this;exact D.done s Q E st hE
theorem YcV {P:Ρ} {w:Ω} {K:Ι} {elts:List Expr} {kk:Nat} {pos:Pos} {a e it:Addr} {k:Nat} {G:Hp->List V->Prop} {inner:Nat->Heap->Prop} (ne:e≠it) (na:e≠a)
  (obj:∀ i h,inner i h->∃ o,h.get? it=some o/\∀ v,o.data ≠ .cell v) (keep:∀ i h h',inner i h->(∀ o,h.get? it=some o->h'.get? it=some o)->inner i h')
  (inj:∀ (X:Cx) pins σ H s xs ys,X.prog=P->X.w=w->X.K=K->Inv X pins σ H s->G H xs->G H ys->xs=ys)
  (dr:∀ (X:Cx) pins σ H s xs i,X.prog=P->X.w=w->X.K=K->X.calm=true->Inv X pins σ H s->G H xs->inner i s.heap->∃ its:List Α,Yz xs its/\∃ St:Nat->Heap->Prop,Draws P w X.A.in1 it [it,a] its.length (fun i v=>its[i]?=some v) St/\St i s.heap/\∀ i h,St i h->inner i h) :
  Turn P w K (.Tuple elts kk pos) (U2 k G) [e,it] e (fun i h=>(∃ old,IsEnum h e it ((i+k:Nat):Int) old)/\inner i h) where
 mem:=by simp
 obj:=fun i h ⟨⟨old,he⟩,hi⟩ c hc=>by
  simp only [Ψ,ax,or_false] at hc;rcases hc with rfl | rfl
  ·exact ⟨_,he,fun v z=>by cases z⟩
  ·exact obj i h hi
 keep:=fun i h h' ⟨⟨old,he⟩,hi⟩ q=>⟨⟨old,q e (by simp) _ he⟩,keep i h h' hi fun o z=>q it (by simp) o z⟩
 item:=by
  intro X hP hw hK hc i pins s σ H E I hf ⟨⟨old,he⟩,hi⟩ hg;obtain ⟨xs,x,g1,hx⟩:=hg;obtain ⟨its,rv,St,D,hst,hin⟩:=dr X pins σ H s xs i hP hw hK hc I g1 hi;subst hP hw hK;have hlen:=rv.length;have hil:i<xs.length:=(Η.mp hx).1;refine wpAny_pyNext_enum_itemD (Ue D k) he ⟨i,rfl,hst⟩ (by omega) ne (fun z=>?_) fun u h1 tk hu ho hi1 hT hsz kp=>?_
  ·simp only [Ψ,ax,or_false] at z
   rcases z with z | z
   ·exact ne z
   ·exact na z
  refine ⟨_,rfl,?_⟩;refine wpAny_letOwnedTupleGo_enum (s:={ s with heap:=h1,toks:=tk+1 }) ho fun h2 he2 sb=>?_
  have elt:e<s.heap.objs.size:=Φ he;have ilt:it<s.heap.objs.size:=by obtain ⟨o,q,_⟩:=obj i _ hi;exact Φ q
  have zO:∀ c o,c∉[e,it]->s.heap.get? c=some o->h2.get? c=some o:=fun c o hm z=>by
   have c1:c≠e:=fun q=>hm (by simp [q])
   have c2:c≠it:=fun q=>hm (by simp [q])
   exact sb.extBut c o c1 (kp c o c1 c2 z)
  obtain ⟨j,ej,hu⟩:=hu;have ej:j=i:=by omega
  subst ej;obtain ⟨u',hu',ru⟩:=rv.get hx;rw [hu] at hu'
  cases hu'
  have hT2:h2.get? s.heap.objs.size=some { cls := .type "tuple",data := .seq #[.int ((j+k:Nat):Int) tk,u] }:=sb.extBut _ _ (eK elt) hT;have I':=I.pK (t':=tk+1) (h':=h2) (T:=s.heap.objs.size) (vs:=[.int ((j+k:Nat):Int),x]) zO hf (Ν _) (show YO X.prog X.w _ h2 _ (.tup [.int ((j+k:Nat):Int),x]) from ⟨by show 2<=sizeLine;decide,[.int ((j+k:Nat):Int) tk,u],.cons ⟨_,rfl⟩ (.cons ru .nil),_,hT2,rfl,_,rfl⟩);have fresh:H s.heap.objs.size=none:=I.hok.fresh (Ν _);obtain ⟨j',KC,st'⟩:=hi1;have KC:j'=j+1:=by omega
  subst KC;refine ⟨.ref s.heap.objs.size,_,I',rfl,⟨_,rfl,fresh,fun xs' x' zP hx'=>?_⟩,⟨⟨u,?_⟩,keep _ _ _ (hin _ _ st') fun o z=>sb.extBut _ _ (ψ ne) z⟩,fun c hm=>?_⟩
  ·rw [inj X pins σ H s _ _ rfl rfl rfl I zP g1,hx] at hx'
   cases hx'
   rfl
  ·have e2:(((j+1+k:Nat)):Int)=((j+k:Nat):Int)+1:=by omega
   rw [e2];simpa using he2
  ·have h0:=(hf c hm).1
   have zQ:c<s.heap.objs.size:=by
    simp only [Ψ,ax,or_false] at hm;rcases hm with rfl | rfl
    ·exact elt
    ·exact ilt
   rw [Ye (ρ zQ)];exact h0
 done:=by
  intro X hP hw hK hc i pins s σ H E I hf ⟨⟨old,he⟩,hi⟩ hg;obtain ⟨xs,g1,hx⟩:=hg;obtain ⟨its,rv,St,D,hst,hin⟩:=dr X pins σ H s xs i hP hw hK hc I g1 hi;subst hP hw hK;have hlen:=rv.length;obtain ⟨f0,f1,f2,f3,f4,f5⟩:=hf it (by simp);exact wpAny_pyNext_enum_endD (Ue D k) he ⟨i,by omega,hst⟩ fun h' eb=>⟨rfl,I.turned (t':=s.toks) (fun b o hb z=>eb b o hb z) f0 f1 f3 f4 f5⟩
 self:=fun _ _ _ _ _ ⟨⟨_,he⟩,_⟩ h=>iN he h
section
variable {prog:Ρ} {w:Ω} {A:η} {E:Α->Β->Prop} {s:Β}
theorem YbU {it t:Addr} {i:Nat} {its:Array Α} {x:Α} {Q:Α->Β->Prop} (hit:ja s.heap it t i) (ht:IsTup s.heap t its) (hx:its[i]?=some x)
  (hQ:∀ h',ja h' it t (i+1)->cy it s.heap h'->Q x { s with heap:=h' }):Μ (Ξ prog w) A (bX (.ref it)) Q E s:=by
 have hT:=hit.typeIs;obtain ⟨o,ho,hc,hd⟩:=hit;obtain ⟨ot,hot,_,nt,hdt⟩:=ht;unfold bX;refine Δ (dE (name:=ah "__next__") hT hW (eL hW hT entry_tupleiter_next ?_ (args_tupleiter_next _)))
 change Μ _ _ (field (.ref it) 0 >>= _) _ _ s
 refine Δ (c8 (x := .ref t) ho hd rfl ?_)
 change Μ _ _ (if (ζ t==ck)=true then _ else _) _ _ s
 rw [if_neg (show ¬ (ζ t==ck)=true from θ)]
 change Μ _ _ (field (.ref it) 1 >>= _) _ _ s
 refine Δ (c8 (x := .int i 0) ho hd rfl ?_)
 change Μ _ _ (seqItems? (.ref t) >>= _) _ _ s
 refine Δ (f8 hot hdt ?_);simp only [hx,fA];refine Δ (wpAny_setField ho hd (by simp) (Ο ⟨x,rfl,Ο (hQ _ ⟨_,c5 _ ho (Obj.isFreed_of_fields (Obj.data_mapFields hd _)),(Obj.cls_mapFields ..).trans hc,?_⟩ (Heap.SameBut.update ..))⟩));rw [Obj.data_mapFields hd];simp [db]
theorem YcW {it t:Addr} {i:Nat} {its:Array Α} {Q:Α->Β->Prop} (hh:A.handled=none) (hit:ja s.heap it t i) (ht:IsTup s.heap t its) (hx:its[i]?=none)
  (hE:∀ h' e,Heap.ExtBut it s.heap h'->(∃ o,h'.get? e=some o/\o.cls = .type "StopIteration")->E (.ref e) { s with heap:=h' }):Μ (Ξ prog w) A (bX (.ref it)) Q E s:=by
 have hT:=hit.typeIs;obtain ⟨o,ho,hc,hd⟩:=hit;obtain ⟨ot,hot,_,nt,hdt⟩:=ht;unfold bX;refine Δ (dE (name:=ah "__next__") hT hW (eL hW hT entry_tupleiter_next ?_ (args_tupleiter_next _)))
 change Μ _ _ (field (.ref it) 0 >>= _) _ _ s
 refine Δ (c8 (x := .ref t) ho hd rfl ?_)
 change Μ _ _ (if (ζ t==ck)=true then _ else _) _ _ s
 rw [if_neg (show ¬ (ζ t==ck)=true from θ)]
 change Μ _ _ (field (.ref it) 1 >>= _) _ _ s
 refine Δ (c8 (x := .int i 0) ho hd rfl ?_)
 change Μ _ _ (seqItems? (.ref t) >>= _) _ _ s
 refine Δ (f8 hot hdt ?_);simp only [hx,fA];refine Δ (kG (Δ (wpAny_setField ho hd (by simp) ?_)))
 change Μ _ _ (newExc (.type "StopIteration") [] >>= _) _ _ _
 refine Δ ?_;simp only [newTuple,newExc];refine Δ (cK ?_ (by size_fits));refine Δ (m:=kg _ _) (wpAny_of_eq (a:=ck) (by first | (simp only [kg];rfl) | rfl) ?_);refine cK ?_ (by size_fits);simp only [raiseNew];refine Δ (wpAny_handled ?_)
 first | rw [hh] | rw [show A.in1.handled=none from hh]
 exact Δ (Ο (wpAny_throw (hE _ _ (((Heap.SameBut.update ..).extBut.push _).push _) ⟨_,δ _ rfl,rfl⟩)))
theorem YcX (hh:A.handled=none) (it t:Addr) (ne:t≠it) (its:Array Α):Draws prog w A it [it,t] its.size (fun i v=>its[i]?=some v) (fun i h=>ja h it t i/\IsTup h t its) where
 live:=fun _ _ st=>let ⟨o,ho,_⟩:=st.1;⟨o,ho⟩
 frame:=fun _ _ _ st hk=>⟨let ⟨o,ho,r⟩:=st.1;⟨o,hk it (by simp) o ho,r⟩,let ⟨o,ho,r⟩:=st.2;⟨o,hk t (by simp) o ho,r⟩⟩
 item:=fun i s Q E hi st hQ=>by
  refine YbU st.1 st.2 (x:=its[i]) (by simp [hi]) fun h' hit' hs'=>?_
  exact hQ _ h' s.toks (by simp [hi]) ⟨hit',let ⟨o,ho,r⟩:=st.2;⟨o,hs'.extBut t o ne ho,r⟩⟩ hs'
 done:=fun s Q E st hE=>YcW hh st.1 st.2 (by simp) hE
open AutoSeq1 (wpAny_loadPart') in
theorem YaE (l:Addr) (o:Obj) (its:Array Α) (n:Nat) (hc:o.cls = .type "tuple") (hd:o.data = .seq its n) :
  Meets (Builtin.«enumerate.__new__» ⟨[.type "enumerate",.ref l],[]⟩) (fun _ R s=>s.heap.get? l=some o /\
   R (.ok (.ret (.ref (s.heap.push { cls := .type "tuple_iterator",data := .fields #[.ref l,.int 0 0] }).objs.size)))
    { s with heap:=(s.heap.push { cls := .type "tuple_iterator",data := .fields #[.ref l,.int 0 0] }).push { cls := .type "enumerate",data := .fields #[.none,.bool false,.ref s.heap.objs.size,db 0,.none,.none] } }) :=
 .of_wp fun prog w A R s h=>by
  obtain ⟨hp,g,d,tk,os⟩:=s;obtain ⟨hl,h⟩:=h;have hsub:=sub_enumerate;have hL:IsTup (Shared.heap ⟨hp,g,d,tk,os⟩) l its:=⟨o,hl,hc,n,hd⟩
  wp_walk using wpAny_loadPart' hl
  refine wpAny_stack_any fun st=>Ο ?_
  split
  ·rename_i c _ _ _ _ _
   cases (c==fc "enumerate")
   ·wp_walk using wpAny_loadPart' hl,iter_tuple hL
    exact ⟨_,rfl,h⟩
   ·wp_walk using wpAny_loadPart' hl,iter_tuple hL
    exact ⟨_,rfl,h⟩
  ·wp_walk using wpAny_loadPart' hl,iter_tuple hL
   exact ⟨_,rfl,h⟩
theorem YbV {l:Addr} {its:Array Α} {Q:Α->Β->Prop} (hL:IsTup s.heap l its)
  (h:∀ h',IsEnum h' (s.heap.objs.size+1) s.heap.objs.size 0 .none->ja h' s.heap.objs.size l 0->(∀ b o,s.heap.get? b=some o->h'.get? b=some o)->Q (.ref (s.heap.objs.size+1)) { s with heap:=h' }) :
  Μ (Ξ prog w) A (call (.type "enumerate") [.ref l]) Q E s:=by
 obtain ⟨o,hl,hc,n,hd⟩:=hL;refine callType_new F.called_enumerate (by decide) (F.typeCall_enumerate_1 _) (F.newCall_enumerate_1 _) (fun obj=>F.args_object_init_2 obj _) F.entry_enumerate_new (YaE l o its n hc hd) ⟨hl,?_⟩;have hz:(s.heap.push { cls := .type "tuple_iterator",data := .fields #[.ref l,.int 0 0] }).objs.size=s.heap.objs.size+1:=dQ ..
 change _/\_
 rw [hz];have he:IsEnum ((s.heap.push { cls := .type "tuple_iterator",data := .fields #[.ref l,.int 0 0] }).push { cls := .type "enumerate",data := .fields #[.none,.bool false,.ref s.heap.objs.size,db 0,.none,.none] }) (s.heap.objs.size+1) s.heap.objs.size 0 .none:=by
  have z:=δ (s.heap.push { cls := .type "tuple_iterator",data := .fields #[.ref l,.int 0 0] }) (o:={ cls := .type "enumerate",data := .fields #[.none,.bool false,.ref s.heap.objs.size,db 0,.none,.none] }) rfl;rw [hz] at z
  exact z
 exact ⟨⟨_,he,rfl⟩,h _ he ⟨_,Ζ _ (δ _ rfl),rfl,rfl⟩ fun b o x=>Ζ _ (Ζ _ x)⟩
end
section
variable {X:Cx} {elts:List Expr} {kk:Nat} {tpos:Pos}
theorem YbW {P:Ρ} {w:Ω} {K:Ι} {pos:Pos} {a e it:Addr} (ne:e≠it) (na:e≠a) (nt:a≠it) :
  Turn P w K (.Tuple elts kk pos) (U2 0 fun H xs=>aq K H a xs) [e,it] e (fun i h=>(∃ old,IsEnum h e it ((i+0:Nat):Int) old)/\ja h it a i):=by
 refine YcV ne na (fun i h ⟨o,q,_,d⟩=>⟨o,q,fun v z=>by rw [d] at z;cases z⟩) (fun i h h' ⟨o,q,r⟩ k=>⟨o,k o q,r⟩) (fun X pins σ H s xs ys hP hw hK I g1 g2=>?_) (fun X pins σ H s xs i hP hw hK hc I g1 hi=>?_)
 ·subst hP hw hK
  exact I.lq g1 g2
 ·subst hP hw hK
  obtain ⟨its,rv,pl,hz⟩:=I.tuple g1;refine ⟨its,rv,fun i h=>ja h it a i/\IsTup h a its.toArray,by simpa using YcX (prog:=X.prog) (w:=X.w) (A:=X.A.in1) (I.ok.hd hc) it a nt its.toArray,⟨hi,pl⟩,fun i h st=>st.1⟩
def KD (K:Ι) (ta:TA):TI:=fun σ H R=>ta σ H fun vs H1=>∃ a xs,vs=[.ref a]/\aq K H1 a xs/\R (U2 0 fun H xs=>aq K H a xs) H1
theorem YdS {a:Expr} {ta:TA} {p pos:Pos} (hg:Gl X "enumerate") (hm:X.mg "enumerate"=none) (ha:PA X [a] ta) (hs:Τ [a] X.env=[(false,eval a X.env)]) :
  PI X (.Tuple elts kk tpos) (.Call (.Name "enumerate" p) [a] [] pos) (KD X.K ta):=by
 intro pins s σ H R I h;refine Call_ (X0 I hg hm boot_enumerate (a7 (aG (ha pos pins s σ H _ I h) fun us s1 hz=>?_) hs rfl));obtain ⟨vs,H1,I1,r1,x,xs,e,hx,q⟩:=hz;subst e;obtain ⟨u,rfl,ru⟩:=WK r1
 cases ru
 obtain ⟨i1,_,pl,_⟩:=I1.tuple hx;have l1:x<s1.heap.objs.size:=by obtain ⟨_,e,_⟩:=pl;exact Φ e
 refine YbV pl fun h' he hi keep=>?_
 refine iN he ?_;have I2:Inv X pins σ H1 { s1 with heap:=h' }:=I1.kept (t':=s1.toks) keep;have l1':@LT.lt Nat _ x s1.heap.objs.size:=l1;refine ⟨_,[s1.heap.objs.size+1,s1.heap.objs.size],_,_,H1,rfl,I2,YbW (by intro z;have z':@Eq Nat _ _:=z;omega) (by intro z;have z':@Eq Nat _ _:=z;omega) (by intro z;have z':@Eq Nat _ _:=z;omega),⟨⟨_,he⟩,hi⟩,fun c hc=>?_,q⟩;have hle:s1.heap.objs.size<=c:=by
  simp only [Ψ,ax,or_false] at hc;rcases hc with e | e<;>(have e':@Eq Nat _ _:=e;show @LE.le Nat _ s1.heap.objs.size c;omega)
 exact I1.iT hle (I1.hok.fresh hle)
end
section
variable {g:TG} {tb:TS} {D:Ends} {σ:St} {H:Hp}
theorem YdT {k:Nat} {G:Hp->List V->Prop} {xs:List V} (Pv:Nat->St->Hp->Prop) (h0:Pv 0 σ H) (hl:∀ i σ H,i<=xs.length->Pv i σ H->G H xs)
  (hs:∀ i x σ H T,xs[i]?=some x->Pv i σ H->H T=none->g (.ref T) σ (upd H T (.tup [.int ((i+k:Nat):Int),x])) fun σ2 H2=>tb { D with nx:=Pv (i+1),ct:=Pv (i+1),bk:=D.nx } σ2 H2) (hd:∀ σ H,Pv xs.length σ H->D.nx σ H) :
  ∃ W:Nat->Nat->St->Hp->Prop,(∃ m,W 0 m σ H)/\∀ i m σ H,W i m σ H ->
   ((U2 k G).stop i H/\D.nx σ H)\/((U2 k G).go i H/\∃ N:St->Hp->Prop,(∀ σ' H',N σ' H'->∃ m',m'<m/\W (i+1) m' σ' H')/\∀ x H',(U2 k G).lu i H x H'->g x σ H' fun σ2 H2=>tb { D with nx:=N,ct:=N,bk:=D.nx } σ2 H2):=by
 refine ⟨fun i m σ H=>m=xs.length - i/\i<=xs.length/\Pv i σ H,⟨xs.length,by simp,ar _,h0⟩,?_⟩;rintro i m σ H ⟨rfl,hi,p⟩;have q:=hl i σ H hi p;by_cases hlt:i<xs.length
 ·have hx:xs[i]?=some xs[i]:=Λ hlt
  refine .inr ⟨⟨xs,_,q,hx⟩,Pv (i+1),fun σ' H' p'=>⟨xs.length - (i+1),by omega,rfl,hlt,p'⟩,?_⟩;rintro v H' ⟨T,rfl,hT,heq⟩;have e:=heq xs _ q hx;subst e;exact hs i _ σ H T hx p hT
 ·have e:i=xs.length:=by omega
  subst e;exact .inl ⟨⟨xs,q,rfl⟩,hd σ H p⟩
theorem YbX {K:Ι} {ta:TA} {a:Addr} {xs:List V} (Pv:Nat->St->Hp->Prop) (ha:∀ R:List V->Hp->Prop,R [.ref a] H->ta σ H R) (h0:Pv 0 σ H) (hl:∀ i σ H,i<=xs.length->Pv i σ H->aq K H a xs)
  (hs:∀ i x σ H T,xs[i]?=some x->Pv i σ H->H T=none->g (.ref T) σ (upd H T (.tup [.int (i:Int),x])) fun σ2 H2=>tb { D with nx:=Pv (i+1),ct:=Pv (i+1),bk:=D.nx } σ2 H2) (hd:∀ σ H,Pv xs.length σ H->D.nx σ H):Vt (KD K ta) g tb D σ H:=by
 refine ha _ ⟨a,xs,rfl,hl 0 σ H (ar _) h0,?_⟩;exact YdT Pv h0 hl (fun i x σ H T hx p hT=>hs i x σ H T hx p hT) hd
end
section
variable {X:Cx} {tg:Expr}
def vG (lo c:Int) (n:Nat):It:=⟨fun i _=>i<n,fun i H v H'=>v = .int (lo+i*c)/\H'=H,fun i _=>n<=i⟩
theorem Yfr {P:Ρ} {w:Ω} {K:Ι} (it:Addr) (lo c:Int) (n:Nat):Turn P w K tg (vG lo c n) [it] it (fun i h=>i4 h it (lo+i*c) ((n:Int) - i) c) where
 mem:=by simp
 obj:=fun i h st b hb=>by
  have e:b=it:=by simpa using hb
  subst e;exact ⟨_,st,fun v z=>by
   have z':lh _=Data.cell v:=z
   cases z'⟩
 keep:=fun i h h' st k=>k it (by simp) _ st
 item:=by
  intro X hP hw hK hc i pins s σ H E I hf st hg;subst hP hw hK;obtain ⟨f0,f1,f2,f3,f4,f5⟩:=hf it (by simp);have W:=Walks.range (prog:=X.prog) (w:=X.w) (I.ok.hd hc) it lo c n;refine W.item i s _ _ hg st fun v h' tk hv st' kk=>?_
  obtain ⟨t,rfl⟩:=hv;have I1:Inv X pins σ H { s with heap:=h',toks:=tk }:=I.turned (fun b o hb e=>kk b o (by simpa using hb) e) f0 f1 f3 f4 f5;exact ⟨_,rfl,Ux (s:={ s with heap:=h',toks:=tk }) (n:="range_iterator") st' rfl rfl (by decide) ⟨.int (lo+i*c),H,I1,⟨t,rfl⟩,⟨rfl,rfl⟩,st',fun b hb=>(hf b hb).1⟩⟩
 done:=by
  intro X hP hw hK hc i pins s σ H E I hf st hg;subst hP hw hK;obtain ⟨f0,f1,f2,f3,f4,f5⟩:=hf it (by simp);exact wpAny_pyNext_range_end (I.ok.hd hc) st (by have:n<=i:=hg;omega) fun h' eb=>⟨rfl,I.turned (t':=s.toks) (fun b o hb e=>eb b o hb e) f0 f1 f3 f4 f5⟩
 self:=fun _ _ _ _ _ st h=>wpAny_pyIter_rangeiter st h
theorem U3 {a b c:Int} (hc:0<c):af a b c=if a<b then (b - a - 1) / c+1 else 0:=by
 unfold af;rw [if_pos hc]
theorem YdU {a b c:Int} (ha : -(2^60)<=a) (ha':a<2^60) (hb : -(2^60)<=b) (hb':b<2^60) (hc:0<c) (hc':c<2^60):ib a b c=true:=by
 have e:=U3 (a:=a) (b:=b) hc;have h2:a<b->(b - a - 1) / c<=b - a - 1:=fun h=>Int.ediv_le_self _ (by omega)
 have h3:a<b->0<=(b - a - 1) / c:=fun h=>Int.ediv_nonneg (by omega) (by omega)
 unfold ib;rw [e];simp only [Builtin.Range.rangeFitsLong,c6,Bool.or_eq_true,decide_eq_true_eq,beq_iff_eq,show c>0 from hc,if_true];by_cases h:a<b
 ·have h2:=h2 h
  have h3:=h3 h;simp only [h,if_true];omega
 ·simp only [h,if_false]
  omega
theorem Ip {pins:List (Addr×Obj)} {σ:St} {H:Hp} {s:Β} {R:It->Hp->Prop} {E:Α->Β->Prop} {lo hi c:Int} {t u v:Tok} {tk:Nat} (I:Inv X pins σ H s) (h1 : -(2^60)<=lo) (h2:lo<2^60) (h3 : -(2^60)<=hi) (h4:hi<2^60) (h5:0<c) (h6:c<2^60)
  (q:R (vG lo c (af lo hi c).toNat) H):Μ (Ξ X.prog X.w) X.A (pyIter (.ref s.heap.objs.size)) (PIE X pins σ tg R) E { s with heap:=s.heap.push { cls := .type "range",data := .fields #[.int lo t,.int hi u,.int c v] },toks:=tk }:=by
 refine wpAny_pyIter_range (IsRange.new ..) (YdU h1 h2 h3 h4 h5 h6) ?_;have I1:Inv X pins σ H { s with heap:=s.heap.push { cls := .type "range",data := .fields #[.int lo t,.int hi u,.int c v] },toks:=tk }:=I.kept fun b o e=>Ζ _ e
 refine ⟨(s.heap.push { cls := .type "range",data := .fields #[.int lo t,.int hi u,.int c v] }).objs.size,[(s.heap.push { cls := .type "range",data := .fields #[.int lo t,.int hi u,.int c v] }).objs.size],_,_,H,rfl,
  I1.kept (t':=tk) fun b o e=>Ζ _ e,Yfr _ lo c (af lo hi c).toNat,?_,fun b hb=>?_,q⟩
 ·have e1:lo+((0:Nat):Int)*c=lo:=by simp
  have e0:0<=af lo hi c:=by
   rw [U3 h5]
   split
   ·have:=Int.ediv_nonneg (a:=hi - lo - 1) (b:=c) (by omega) (by omega)
    omega
   ·omega
  have e2:(((af lo hi c).toNat:Nat):Int) - ((0:Nat):Int)=af lo hi c:=by omega
  show i4 _ _ (lo+((0:Nat):Int)*c) ((((af lo hi c).toNat:Nat):Int) - ((0:Nat):Int)) c
  rw [e1,e2];exact δ _ rfl
 ·have e:b=(s.heap.push { cls := .type "range",data := .fields #[.int lo t,.int hi u,.int c v] }).objs.size:=by simpa using hb
  subst e;exact I1.iT (Ν _) (I1.hok.fresh (Ν _))
def KH (ta:TA):TI:=fun σ H R=>ta σ H fun vs H1=>∃ i j c:Int,vs=[.int i,.int j,.int c]/\(-(2^60)<=i/\i<2^60 /\ -(2^60)<=j/\j<2^60/\0<c/\c<2^29)/\R (vG i c (af i j c).toNat) H1
theorem YcZ {a b c:Expr} {ta:TA} {p pos:Pos} (hg:Gl X "range") (hm:X.mg "range"=none) (ha:PA X [a,b,c] ta) (hs:Τ [a,b,c] X.env=[(false,eval a X.env),(false,eval b X.env),(false,eval c X.env)]) (hs2:Τ [b,c] X.env=[(false,eval b X.env),(false,eval c X.env)]) :
  PI X tg (.Call (.Name "range" p) [a,b,c] [] pos) (KH ta):=by
 intro pins s σ H R I h;refine Call_ (X0 I hg hm boot_range (a7 (aG (ha pos pins s σ H _ I h) fun us s1 hz=>?_) (by rw [hs,hs2]) (by rw [hs2];rfl)));obtain ⟨vs,H1,I1,r1,i,j,k,e,⟨q1,q2,q3,q4,q5,q6⟩,q⟩:=hz;subst e
 cases r1 with
 | cons r rr =>
  cases rr with
  | cons r' rr =>
   cases rr with
   | cons r'' rr =>
    cases rr
    obtain ⟨t,rfl⟩:=r;obtain ⟨t',rfl⟩:=r';obtain ⟨t'',rfl⟩:=r'';exact call_range_3 (by omega) (Ip I1 q1 q2 q3 q4 q5 (by omega) q) (.inl (PyProof.noPylong_small (by omega)))
end
def XX (a:Addr) (cls:Α) (dc:Option Addr):HO := .ext fun h=>∃ o vs,h.get? a=some o/\o.cls=cls/\o.data = .fields vs/\o.dict=dc
section
variable {P:Ρ} {w:Ω} {l:List Env} {H H':Hp} {h h' h'' B:Heap} {a e:Addr} {cls:Α} {o:HO}
theorem YO.alive (x:YO P w H h a o):∃ u,h.get? a=some u:=by
 cases o with
 | lst xs=>obtain ⟨_,_,_,_,e⟩:=x;exact ⟨_,e⟩
 | tup xs=>obtain ⟨_,_,_,u,e,_⟩:=x;exact ⟨_,e⟩
 | dK kvs=>obtain ⟨_,_,_,_,o,_,_,e,_⟩:=x;exact ⟨_,e⟩
 | dT kvs=>obtain ⟨_,_,_,_,o,_,_,e,_⟩:=x;exact ⟨_,e⟩
 | set S n=>obtain ⟨o,_,_,_,e,_⟩:=x;exact ⟨_,e⟩
 | ins C dx fs=>obtain ⟨_,_,_,e,_⟩:=x;exact ⟨_,e⟩
 | own y=>exact x
 | xd fs=>obtain ⟨_,⟨_,_,_,e,_⟩,_⟩:=x;exact ⟨_,e⟩
 | rng lo hi=>obtain ⟨_,_,_,e⟩:=x;exact ⟨_,e⟩
 | cM ob u=>obtain ⟨e,_⟩:=x;exact ⟨_,e⟩
 | aU ps=>exact ⟨_,(show h.get? a=some _ from x)⟩
 | met f y=>exact ⟨_,(show h.get? a=some _ from x)⟩
 | ext φ=>exact x.2.1
theorem dH.new (F:dH P w l H h e cls H' h' B) (hf:∀ b∈frs l,H b=none) (nf:∀ b∈frs l,∀ o,h.get? b=some o->∀ vs,o.data ≠ .fields vs):h.get? e=none:=by
 obtain ⟨a0,fl⟩:=F.fl
 cases q:h.get? e with
 | none=>rfl
 | some o =>
  by_cases hb:e∈frs l
  ·obtain ⟨sl,z⟩:=F.slot e o q (hf e hb) hb
   obtain ⟨oe,vs,z',_,d,_⟩:=fl.first;rw [z] at z'
   cases z'
   exact absurd d (nf e hb o q vs)
  ·obtain ⟨o',z⟩:=F.al e o q hb
   rw [fl.2.1] at z
   cases z
theorem dH.out (F:dH P w l H h e cls H' h' B):H' e=none:=by
 obtain ⟨a0,fl⟩:=F.fl
 cases q:H' e with
 | none=>rfl
 | some u =>
  obtain ⟨o,z⟩:=(F.hok e u q).alive;rw [fl.2.1] at z
  cases z
theorem dH.track (F:dH P w l H h e cls H' h' B) (hf:∀ b∈frs l,H b=none) (nf:∀ b∈frs l,∀ o,h.get? b=some o->∀ vs,o.data ≠ .fields vs) {dc:Option Addr} (hd:XB h' e dc) :
  Un (frs l) [] H (upd H' e (XX e cls dc)) h h'/\bD P w (upd H' e (XX e cls dc)) h':=by
 have n1:=F.new hf nf;have n2:=F.out;have u:=F.un hf;have ok:=F.held;obtain ⟨a0,fl⟩:=F.fl;refine ⟨⟨u.keep,u.slot,fun b o q n hx=>?_,u.there,fun b xs q=>?_,fun b o x q=>?_,fun b ps q=>?_⟩,fun b x q=>?_⟩
 ·rw [Ye (fun z=>by rw [z,n1] at q;cases q)]
  exact u.free b o q n hx
 ·rw [Ye (Yj (u.tups b xs q) n2)]
  exact u.tups b xs q
 ·rw [Ye (Yj (u.bF b o x q) n2)]
  exact u.bF b o x q
 ·obtain ⟨m,z⟩:=u.cJ b ps q
  exact ⟨m,by rw [Ye (Yj z n2)];exact z⟩
 ·by_cases hb:b=e
  ·subst hb
   rw [Yb] at q
   cases q
   obtain ⟨oe,vs,z1,z2,z3,_⟩:=fl.first;obtain ⟨od,d1,d2⟩:=hd;rw [z1] at d1
   cases d1
   exact ⟨⟨oe,vs,z1,z2,z3,d2⟩,⟨oe,z1⟩,fun h1 h2 p k=>by obtain ⟨o,vs,y1,y2,y3⟩:=p;exact ⟨o,vs,k o y1,y2,y3⟩⟩
  ·rw [Ye hb] at q
   exact (ok b x q).stay (fun c v _ r=>r) (fun c r=>by rw [Ye (Yj r n2)];exact r) fun c xs r=>by rw [Ye (Yj r n2)];exact r
end
section
variable {X:Cx} {pins:List (Addr×Obj)} {σ:St} {H H' H1:Hp} {s s1 s':Β}
theorem Yfs {M:Model} {A:η} {E:Α->Β->Prop} {j:Nat} {n:Str} {pos:Pos} {Q:Unit->Β->Prop} (I:Inv X pins σ H s) (hN:X.N.Nodup) (hj:X.N[j]?=some n) (hk:X.env.scope.names.lookup n=some .local)
  (h:∀ s',Inv X pins (σ.set j none) H s'->Q () s'):Μ M A (do bindName X.env n .none;unbindBehindTheSuite X.env n pos) Q E s:=by
 obtain ⟨m,hn,hl⟩:=id I.loc;have hcls:(X.env.scope.kind == .class||(X.env.scope.kind == .module&&X.env.locals != X.env.globals))=false:=by rw [I.ok.kind];rfl
 have jd:=I.jd;have tracked:∀ {a:Addr} {h':Heap},(∃ o,s.heap.get? a=some o/\H a=none)->cy a s.heap h'->bD X.prog X.w H h':=fun {a h'} ha hs b ob e=>by
  obtain ⟨_,_,hfree⟩:=ha;refine (I.hok b ob e).stay (fun c w' hc q=>(hs.2 c ?_).trans q) (fun _ q=>q) fun _ _ q=>q
  rintro rfl;rcases hc with rfl | hc
  ·rw [hfree] at e;cases e
  ·rw [hfree] at hc;cases hc
 refine wpAny_nameGoes_keeps hk hn hcls fun h' v hn' hs=>?_
 obtain ⟨oL,_,_,hoL,_⟩:=id hn;refine h _ ⟨I.ok,I.os,I.bare,⟨fun b o e n hb hx=>?_,fun b o e n hb hx=>?_,I.base.free,fun b o e hx=>?_,I.base.tups,I.base.bF,I.base.cJ⟩,⟨_,hn',fun i y v' e1 e2 e3=>?_⟩,fun y c e=>?_,I.free,I.aZ,fun p hp=>?_,tracked ⟨oL,hoL,I.free⟩ hs,by simpa using I.len⟩
 ·exact (hs.2 b (I.qg e)).trans (I.base.keep b o e n hb hx)
 ·obtain ⟨sl,e1⟩:=I.base.slot b o e n hb hx
  exact ⟨sl,(hs.2 b (I.qg e)).trans e1⟩
 ·obtain ⟨o',e1⟩:=I.base.there b o e hx
  exact ⟨o',(hs.2 b (I.qg e)).trans e1⟩
 ·by_cases hji:i=j
  ·subst hji
   rw [List.getElem?_set] at e2
   split at e2
   ·split at e2<;>cases e2
   ·rename_i z;exact absurd rfl z
  ·rw [List.getElem?_set_ne (ψ hji)] at e2
   obtain ⟨u',r',q⟩:=hl i y v' e1 e2 e3;refine ⟨u',r',?_⟩;rcases q with ⟨k,e⟩ | ⟨k,c,e,z⟩
   ·refine .inl ⟨k,?_⟩
    have:y≠n:=fun e=>hji (Ug hN e1 (e▸hj))
    simp [this,e]
   ·exact .inr ⟨k,c,e,z.sameBut hs (jd y c e)⟩
 ·obtain ⟨w',z⟩:=I.cell y c e
  exact ⟨w',z.sameBut hs (jd y c e)⟩
 ·obtain ⟨e,n,ne,nf,d⟩:=I.pin p hp
  exact ⟨(hs.2 p.1 ne).trans e,n,ne,nf,d⟩
end
def Ends.gone (D:Ends) (j:Nat):Ends:={ nx:=fun σ H=>D.nx (σ.set j none) H,rt:=D.rt,bk:=fun σ H=>D.bk (σ.set j none) H,ct:=fun σ H=>D.ct (σ.set j none) H }
section
variable {X:Cx} {pins:List (Addr×Obj)} {σ:St} {H H' H1:Hp} {s s1 s':Β} {e:Α} {D:Ends} {ts:TS} {b₀:Stmt} {suite:List Stmt} {c n:Str} {cv:Α} {cp hpos:Pos} {j:Nat}
theorem Inv.yw (I:Inv X pins σ H1 s1) (hs:X.stack=X.env::X.outer) (hf:X.env.frame=some X.env.locals) (hN:X.N.Nodup) (hj:X.N[j]?=some n) (hk:X.env.scope.names.lookup n=some .local)
  (hq:m5 X.prog X.w X.stack H1 s1 (fun cls dc H2=>PySem.W.exmOne X.K cls cv=some true/\∀ a,H2 a=none->ts (D.gone j) (σ.set j (some (.ref a))) (upd H2 a (XX a cls dc))) e s')
  (zW:∀ a,eH (X.caught a) (b₀::suite) ts) (hc:Gl X c) (hcm:X.mg c=some cv) (hdb:(c==("__debug__":Str))=false) :
  Μ (Ξ X.prog X.w) X.A (noteFrame e X.env) (fun _ s₂=>Μ (Ξ X.prog X.w) X.A (setFlight e none) (fun _ s₃=>Μ (Ξ X.prog X.w) X.A (handleBy e X.env [.ExceptHandler (some (.Name c cp)) (some n) (b₀::suite) hpos]) (SP X pins D) X.xe s₃) X.xe s₂) X.xe s':=by
 obtain ⟨a,cls,H2,B,dc,rfl,os,bare,F,hdc,hm,ht⟩:=hq;obtain ⟨a0,fl⟩:=F.fl;have nf:=I.yu;have KJ:=fl;rw [hs] at KJ
 have hfr:=I.ok.frames;rw [hs] at hfr
 refine aa (Wt (Vl _ _) hdc (wpAny_looks_onW (Q:=fun _ s₂=>∃ h₄ L,s₂={ s' with heap:=h₄ }/\Heap.HeldW B (X.env::X.outer) a cls a0 L h₄/\s'.heap.UpToSlots h₄) (E:=X.xe) hfr hf KJ fun h₄ held zX=>⟨h₄,_,rfl,held,zX⟩)) ?_ fun _ _ z=>z.1
 rintro _ s₂ ⟨⟨h₄,L4,rfl,held,zX⟩,hd4⟩;refine aa (Wt (Wu _ _) hd4 (wpAny_landsW (Q:=fun _ s₃=>∃ h₅,s₃={ s' with heap:=h₅ }/\kU B (X.env::X.outer) a cls a0 h₅/\h₄.UpToSlots h₅) (E:=X.xe) held fun h₅ pL zY=>⟨h₅,rfl,pL,zY⟩)) ?_ fun _ _ z=>z.1
 rintro _ s₃ ⟨⟨h₅,rfl,pL,zY⟩,hd5⟩;rw [<- hs] at pL
 have F5:=F.on ⟨a0,pL⟩ nf (zX.trans zY);have I5:Inv X pins σ H2 { s' with heap:=h₅ }:=I.seen (s':={ s' with heap:=h₅ }) F5 os bare;have I5c:=I5.caught a;refine wpAny_handleBy_cons (codeAny_handlers_test (X8 I5c hc hcm ?_ hdb)) (by intro q;cases q);obtain ⟨ob,hob,hcl⟩:=pL.there;have LT:PySem.W.Looks (Ξ X.prog X.w) h₅ (typeOf (.ref a)) cls:=by
  subst hcl;exact (PySem.W.Looks.ld hob).andThen .now
 refine PySem.W.exm_one (K:=X.K) (h:=h₅) I5.bf LT hm _ _ _ _ (fun _ _ z=>z) ?_;refine codeAny_handlers_suite_as ?_;refine aa (Wt (Wu _ _) hd5 (lands_againW (Q:=fun _ s₄=>∃ h₆,s₄={ s' with heap:=h₆ }/\kU B X.stack a cls a0 h₆/\h₅.UpToSlots h₆) (E:=fun _ _=>False) pL fun h₆ zZ z6=>⟨h₆,rfl,zZ,z6⟩)) ?_ fun _ _ z=>z.1.elim
 rintro _ s₄ ⟨⟨h₆,rfl,zZ,z6⟩,z7⟩;have F6:=F5.on ⟨a0,zZ⟩ nf z6;obtain ⟨u6,z8⟩:=F6.track I.gb nf z7;have I6:Inv X pins σ (upd H2 a (XX a cls dc)) { s' with heap:=h₆ }:=I.call' (s':={ s' with heap:=h₆ }) (ch:=[]) os u6 z8 bare fun b z=>nomatch z
 have I6c:=I6.caught a;refine Vr (X:=X.caught a) I6c hN hj (.inl hk) (v := .ref a) rfl (fun s7 I7=>?_) (.inr hk);refine aa (zW a pins _ _ _ (D.gone j) I7 (ht a F6.out)) (fun f s8 z=>?_) fun _ _ z=>z.elim
 have key:∀ {σ':St} {H':Hp} {Q:St->Hp->Prop},Inv (X.caught a) pins σ' H' s8->Q (σ'.set j none) H'->∀ {R:Unit->Β->Prop},(∀ s9,Inv X pins (σ'.set j none) H' s9->R () s9)->Μ (Ξ X.prog X.w) X.A (do bindName X.env n .none;unbindBehindTheSuite X.env n hpos) R X.xe s8 :=
  fun {σ' H' Q} J _ {R} hR=>Yfs (J.uncaught I.ok.hd) hN hj hk hR
 cases f with
 | next=>obtain ⟨σ',H',J,q⟩:=z;exact key (Q:=fun _ _=>True) J trivial fun s9 J9=>⟨_,_,J9,q⟩
 | brk=>obtain ⟨σ',H',J,q⟩:=z;exact key (Q:=fun _ _=>True) J trivial fun s9 J9=>⟨_,_,J9,q⟩
 | cont=>obtain ⟨σ',H',J,q⟩:=z;exact key (Q:=fun _ _=>True) J trivial fun s9 J9=>⟨_,_,J9,q⟩
 | ret u=>obtain ⟨v,σ',H',J,r,q⟩:=z;exact key (Q:=fun _ _=>True) J trivial fun s9 J9=>⟨v,_,_,J9,r,q⟩
end
def KN (K:Ι) (cv:Α) (sp:Sp) (t:TA) (i j:Nat) (ts:TS):TS:=fun D σ H=>t σ H fun vs H1=>sp (vs++[]) H1 (fun v H2=>D.nx (σ.set i (some v)) H2) (fun cls dc H2=>ka K cls cv=some true/\∀ a,H2 a=none->ts (D.gone j) (σ.set j (some (.ref a))) (upd H2 a (XX a cls dc)))
end L2
namespace PySem.W
open PySem PySem.Calls PyProof.Rows Builtin Builtin.ObjectAttr Builtin.Getset_descriptor
section
variable {prog:Ρ} {w:Ω} {A:η} {E:Α->Β->Prop} {K:Frag} {x C:Addr} {ox:Obj} {hh:Heap} {g:Array GenState} {d:Drawn} {t:Nat} {os:OsState}
theorem Qr (v:Α):bindSpecial (.builtin "BaseException.__getattribute__") v=pure (.builtin "BaseException.__getattribute__",[v]):=by
 have h1:withoutEnding? "BaseException.__getattribute__" "#opaque"=none:=by decide +kernel
 have h2:withoutEnding? "BaseException.__getattribute__" "#data"=none:=by decide +kernel
 have h3:builtinKind "BaseException.__getattribute__"=some .slot:=by decide +kernel
 simp only [bindSpecial,typeOf,builtinType,h1,h2,h3];rfl
theorem Yc1 {tp:Α} {R:Result->Β->Prop} (In:K.In hh) (hx:hh.get? x=some ox) (hc:ox.cls = .ref C) (hm:iA K C (.type "object")=some true)
  (h:R (.ok (.ret (.ref C))) ⟨hh,g,d,t,os⟩):ei (Ξ prog w) A (.call (.builtin "getset_descriptor.__get__") ⟨[.builtin "object.__class__",.ref x,tp],[]⟩) R ⟨hh,g,d,t,os⟩:=by
 have L0:Looks (Ξ prog w) hh (typeOf (.ref x)) (.ref C):=by rw [<- hc];exact (Looks.ld hx).andThen .now
 have L1:=looks_mroIn (M:=Ξ prog w) In hm;refine eA KF.slot_gs.plain KF.entry_gs (KF.slot_gs.check _ _ _ _ _ _ _ _ KF.type_class (KF.args_gs _ _ _) ?_);unfold Builtin.«getset_descriptor.__get__»;unfold descrGet;rw [dga_obj];refine Δ (Ο ?_);unfold descrGetter;unfold descrCheckInstance descrNameAndClass;unfold isInstance;simp only [KF.owner_class]
 repeat lk
 refine ⟨Code.quiet_builtin _ (by decide +kernel),codeAny_builtin KF.entry_class ?_⟩;unfold Builtin.«object.__class__»;unfold shownTypeOf
 repeat lk
 exact h
theorem YaF {tk:Tok} {Q:Fin->Β->Prop} (In:K.In hh) (hx:hh.get? x=some ox) (hc:ox.cls = .ref C) (hm:iA K C (.type "object")=some true) (ha:bS K (.ref C) "__class__"=some (some (.builtin "object.__class__")))
  (hq:Q (.done (.ret (.ref C))) ⟨hh,g,d,t,os⟩):Μ (Ξ prog w) A (Builtin.«object.__getattribute__» ⟨[.ref x,.str "__class__" tk],[]⟩) Q E ⟨hh,g,d,t,os⟩:=by
 have hT5:(⟨hh,g,d,t,os⟩:Β).TypeIs (.builtin "object.__class__") "getset_descriptor":=F.typeOf_object_class;have f5:=F.typeOf_object_class;have f6:=F.slot_gs_get.lookup;have f7:=F.slot_gs_set.lookup;have L3:=fE (M:=Ξ prog w) In ha
 repeat (any_goals (first | assumption | (with_reducible refine bq hx ?_;rw [hc]) | with_reducible refine L3.at ?_ | wp_step))
 refine Yc1 In hx hc hm ?_
 repeat (any_goals (first | assumption | wp_step))
theorem Uf {nv:Α} {Q:Unit->Β->Prop} (In:K.In hh) (hx:hh.get? x=some ox) (hc:ox.cls = .ref C) (hb:iA K C (.type "BaseException")=some true) (hq:Q () ⟨hh,g,d,t,os⟩) :
  Μ (Ξ prog w) A (checkBuiltinCall "BaseException.__getattribute__" ⟨[.ref x,nv],[]⟩) Q E ⟨hh,g,d,t,os⟩:=by
 have k1:builtinKind "BaseException.__getattribute__"=some .slot:=by decide +kernel
 have k2:splitId "BaseException.__getattribute__"=some ("BaseException","__getattribute__"):=by decide +kernel
 have k3:=F.args_bexc_ga (.ref x) nv;have L1:=looks_mroIn (M:=Ξ prog w) In hb;simp only [checkBuiltinCall,k1,k2];refine Δ ?_;unfold isInstance
 repeat (first | (with_reducible refine bq hx ?_;rw [hc]) | with_reducible refine L1.at ?_ | wp_step)
 exact hq
theorem YbY {tk:Tok} {R:Result->Β->Prop} (In:K.In hh) (hx:hh.get? x=some ox) (hc:ox.cls = .ref C) (hm:iA K C (.type "object")=some true) (hb:iA K C (.type "BaseException")=some true) (ha:bS K (.ref C) "__class__"=some (some (.builtin "object.__class__")))
  (hq:R (.ok (.ret (.ref C))) ⟨hh,g,d,t,os⟩):ei (Ξ prog w) A (.call (.builtin "BaseException.__getattribute__") ⟨[.ref x,.str "__class__" tk],[]⟩) R ⟨hh,g,d,t,os⟩ :=
 eA (by decide +kernel) F.entry_bexc_ga (Uf In hx hc hb (YaF In hx hc hm ha hq))
theorem YdV {tk:Tok} {Q:Α->Β->Prop} (In:K.In hh) (hx:hh.get? x=some ox) (hc:ox.cls = .ref C) (hm:iA K C (.type "object")=some true) (hb:iA K C (.type "BaseException")=some true) (ha:bS K (.ref C) "__class__"=some (some (.builtin "object.__class__")))
  (hga:bS K (.ref C) "__getattribute__"=some (some (.builtin "BaseException.__getattribute__"))) (hgt:bS K (.ref C) "__getattr__"=some none) (hbd:bindSpecial (.builtin "BaseException.__getattribute__") (.ref x)=pure (.builtin "BaseException.__getattribute__",[.ref x])) (hq:Q (.ref C) ⟨hh,g,d,t,os⟩) :
  Μ (Ξ prog w) A (getAttrBy (.ref x) (.str "__class__" tk) false) Q E ⟨hh,g,d,t,os⟩:=by
 have e2:(c9 "BaseException.__getattribute__"==c9 "object.__getattribute__")=false:=by decide +kernel
 have e1:(onTheHeap (ζ C)&&c9 "BaseException.__getattribute__"==c9 "object.__getattribute__")=false:=by rw [e2];rfl
 have e0:(false&&onTheHeap (c9 "BaseException.__getattribute__"))=false:=rfl;have L1:=fE (M:=Ξ prog w) In hga;have L2:=fE (M:=Ξ prog w) In hgt
 repeat (any_goals (first | assumption | (with_reducible refine bq hx ?_;rw [hc]) | with_reducible refine L1.at ?_ | with_reducible refine L2.at ?_ | wp_step))
 refine YbY In hx hc hm hb ha ?_
 repeat (any_goals (first | assumption | wp_step))
theorem YbZ {Q:Option Α->Β->Prop} (In:K.In hh) (hx:hh.get? x=some ox) (hc:ox.cls = .ref C) (hm:iA K C (.type "object")=some true) (hb:iA K C (.type "BaseException")=some true) (ha:bS K (.ref C) "__class__"=some (some (.builtin "object.__class__")))
  (hga:bS K (.ref C) "__getattribute__"=some (some (.builtin "BaseException.__getattribute__"))) (hgt:bS K (.ref C) "__getattr__"=some none) (hq:Q (some (.ref C)) ⟨hh,g,d,t+1,os⟩) :
  Μ (Ξ prog w) A (getAttr? (.ref x) "__class__") Q E ⟨hh,g,d,t,os⟩:=by
 unfold getAttr? getAttrBy?;refine Δ (wpAny_mkText (Δ (wpAny_attempt (YdV In hx hc hm hb ha hga hgt ?_ (Ο hq)))));exact Qr (.ref x)
theorem uQ (hd:kq K C=true) (hm:iA K C (.type "object")=some true) (hb:iA K C (.type "BaseException")=some true) (ha:bS K (.ref C) "__class__"=some (some (.builtin "object.__class__")))
  (hga:bS K (.ref C) "__getattribute__"=some (some (.builtin "BaseException.__getattribute__"))) (hgt:bS K (.ref C) "__getattr__"=some none):KitX K (.ref x) (.ref C) (fun h=>∃ o,h.get? x=some o/\o.cls = .ref C) where
 ty:=fun M h _ ⟨o,hx,hc⟩=>by rw [<- hc];exact (Looks.ld hx).andThen .now
 it:=fun M h In _=>by
  obtain ⟨cd,e,_⟩:=kS hd;unfold clsIn at e
  split at e
  case h_2=>cases e
  case h_1 q =>
   intro A' Q' E' s' k z;unfold isType;unfold loadHead;exact Δ (ke (k _ _ (In _ _ q)) (Ο z))
 ne:=fun h tp dd its n sl In htp=>by
  obtain ⟨cd,e,_⟩:=kS hd;refine iS.mpr fun z=>?_
  have z1:C=tp:=Value.ref.inj (beq_iff_eq.mp z);subst z1;unfold clsIn at e
  split at e
  case h_2=>cases e
  case h_1 q =>
   have y:=(In _ _ q).symm.trans htp
   cases y
 ca:=fun {prog w A E Q s} In ⟨o,hx,hc⟩ k=>by
  obtain ⟨hh,g,d,t,os⟩:=s;exact YbZ In hx hc hm hb ha hga hgt k
end
end PySem.W
namespace L2
open PySem PySem.Spec PyProof.Rows
structure fD (K:Ι) (C:Addr):Prop where
 hd:kq K C=true
 hm:W.mroIn K C (.type "object")=some true
 hb:W.mroIn K C (.type "BaseException")=some true
 ha:bS K (.ref C) "__class__"=some (some (.builtin "object.__class__"))
 hga:bS K (.ref C) "__getattribute__"=some (some (.builtin "BaseException.__getattribute__"))
 hgt:bS K (.ref C) "__getattr__"=some none
section
variable {X:Cx}
theorem Xm {g:Gx} {x:Str} {C:Addr} {pos:Pos} (h:g.mg x=some (.ref C)) (hX:X.gx=g:=by rfl) (hg:Gl X x:=by rfl) (hd:(x==("__debug__":Str))=false:=by decide):PE X (.Name x pos) (tC (.ref C)):=by
 subst hX;exact Jv hg h rfl hd
end
theorem YdW {X:Cx} {a:Addr}:(X.caught a).K=X.K:=rfl
theorem WG {K:Ι} {C:Addr} {f:Str} (h:bS K (.ref C) f=some none):Yo K C f:=h
theorem YY (es:List Expr) (x:Nat) (p:Pos) (es':List Expr) (env:Env):Τ (.Tuple es x p::es') env=(false,eval (.Tuple es x p) env)::Τ es' env:=rfl
theorem Up (es:List Expr) (p:Pos) (es':List Expr) (env:Env):Τ (.List es p::es') env=(false,eval (.List es p) env)::Τ es' env:=rfl
section
open PySem.SeqAt
open PySem.AutoSeq1 (wpAny_loadPart')
open PySem.MeetsSeq PySem.MeetsSeq2 PySem.MeetsSeq3
variable {X:Cx}
variable {K:Ι}
theorem aO.yC {k:Nat} {A:η} (r:aO k A):A.units+66<cLine:=by have:=r.un;omega
end
end L2
namespace L2
open PySem
section
variable {src:List (Option Nat)} {te:TE} {σ:St} {H:Hp} {Q:VK}
theorem U4 {J:It} {P:Hp->Prop} {xs:List V} (hJ:XU J P xs) {H1:Hp} {D:Addr} (Rl:Nat->V->Hp->Prop) (st:∀ i y H H',Rl i y H->Yg H H'->Rl i y H') (su:∀ i y H zs zs',Rl i y H->H D=some (.lst zs)->Rl i y (upd H D (.lst zs')))
  (hP:∀ H',Yg H1 H'->P H') (hD:H1 D=none) (hlen:xs.length<=100000)
  (step:∀ (i:Nat) x H' zs,xs[i]?=some x->Yg H1 H'->H' D=some (.lst zs)->∀ R:VK,(∀ y aJ,Yg H' aJ->Rl i y aJ->R y aJ)->te (some x::YJ src σ) H' R)
  (fin:∀ (ys:List V) H',Yg H1 H'->H' D=some (.lst ys)->ys.length=xs.length->(∀ (j:Nat) y,ys[j]?=some y->Rl j y H')->Q (.ref D) H'):LC (none::src) J (YW 0) Wj te σ H1 Q D:=by
 have h6:100000<sizeLine:=by decide
 refine UG hJ (fun i zs σ' H'=>zs.length=i/\(∃ o,σ'=o::YJ src σ)/\Yg H1 H'/\H' D=some (.lst zs)/\∀ (j:Nat) y,zs[j]?=some y->Rl j y H')
  ⟨rfl,⟨none,rfl⟩,.aj hD _,Yb,fun j y h=>by simp at h⟩ (fun i zs σ' H' ⟨_,_,p1,p2,_⟩=>⟨hP _ p1,p2⟩) (Wk 0) ?_ ?_
 ·rintro i zs σ' H' x hx ⟨hi',⟨o,rfl⟩,sm,hd,hts⟩
  have hi:=(Η.mp hx).1
  show te (some x::YJ src σ) H' _
  refine step i x H' zs hx sm hd _ fun y aJ s2 hy=>⟨s2 _ _ hd,by omega,by simp [hi'],⟨_,rfl⟩,.cO hD (sm.trans s2) _,Yb,fun j z hj=>su _ _ _ _ _ ?_ (s2 _ _ hd)⟩
  rcases Nat.lt_trichotomy j zs.length with h1 | h1 | h1
  ·rw [υ h1] at hj
   exact st _ _ _ _ (hts j z hj) s2
  ·have hb:y=z:=by subst h1;simpa using hj
   subst hb;rw [h1,hi'];exact hy
  ·rw [List.getElem?_eq_none (by rw [Κ,ω];omega)] at hj;cases hj
 ·rintro zs σ' H' ⟨hn,_,sm,hd,hts⟩
  exact fin zs H' sm hd hn hts
theorem KQ {K:Ι} {tl:TE} {xs:List V} {b:Addr} (Rl:Addr->Nat->V->Hp->Prop) (st:∀ D i y H H',Rl D i y H->Yg H H'->Rl D i y H') (su:∀ D i y H zs zs',Rl D i y H->H D=some (.lst zs)->Rl D i y (upd H D (.lst zs')))
  (ha:∀ R:V->Hp->Prop,R (.ref b) H->tl σ H R) (hS:aA K H b xs) (hlen:xs.length<=100000)
  (step:∀ D (i:Nat) x H' zs,xs[i]?=some x->Yg H H'->H' D=some (.lst zs)->∀ R:VK,(∀ y aJ,Yg H' aJ->Rl D i y aJ->R y aJ)->te (some x::YJ src σ) H' R)
  (fin:∀ D (ys:List V) H',H D=none->Yg H H'->H' D=some (.lst ys)->ys.length=xs.length->(∀ (j:Nat) y,ys[j]?=some y->Rl D j y H')->Q (.ref D) H'):je (none::src) (Wf K tl) (YW 0) Wj te σ H Q :=
 ha _ ⟨b,rfl,⟨xs,hS⟩,fun D hD=>U4 (XV.imp fun H' (e:Yg H H')=>e.seq hS) (Rl D) (st D) (su D) (fun _ e=>e) hD hlen (fun i x H' zs hx sm hd R r=>step D i x H' zs hx sm hd R r) fun ys H' sm=>fin D ys H' hD sm⟩
theorem Qs {K:Ι} {tl:TE} {xs:List V} {b:Addr} (Rl:Addr->Nat->V->Hp->Prop) (st:∀ D i y H H',Rl D i y H->Yg H H'->Rl D i y H') (su:∀ D i y H zs zs',Rl D i y H->H D=some (.lst zs)->Rl D i y (upd H D (.lst zs')))
  (ha:∀ R:V->Hp->Prop,R (.ref b) H->tl σ H R) (hS:aq K H b xs) (hlen:xs.length<=100000)
  (step:∀ D (i:Nat) x H' zs,xs[i]?=some x->Yg H H'->H' D=some (.lst zs)->∀ R:VK,(∀ y aJ,Yg H' aJ->Rl D i y aJ->R y aJ)->te (some x::YJ src σ) H' R)
  (fin:∀ D (ys:List V) H',H D=none->Yg H H'->H' D=some (.lst ys)->ys.length=xs.length->(∀ (j:Nat) y,ys[j]?=some y->Rl D j y H')->Q (.ref D) H'):je (none::src) (uw K tl) (YW 0) Wj te σ H Q :=
 ha _ ⟨b,rfl,⟨xs,hS⟩,fun D hD=>U4 (YcK.imp fun H' (e:Yg H H')=>e.tup hS) (Rl D) (st D) (su D) (fun _ e=>e) hD hlen (fun i x H' zs hx sm hd R r=>step D i x H' zs hx sm hd R r) fun ys H' sm=>fin D ys H' hD sm⟩
end
mutual
inductive VL (H:Hp):V->ξ->List Addr->Prop
 | int (i:Int):VL H (.int i) (.int i) []
 | str (x:Str) (h:ce x=true):VL H (.str x) (.str x) []
 | lst {a:Addr} {vs:List V} {ds:List ξ} {L:List Addr}:H a=some (.lst vs)->vs.length<=10000->rD H vs ds L->VL H (.ref a) (.list ds) (a::L)
 | tup {a:Addr} {vs:List V} {ds:List ξ} {L:List Addr}:H a=some (.tup vs)->vs.length<=10000->rD H vs ds L->VL H (.ref a) (.tuple ds) L
inductive rD (H:Hp):List V->List ξ->List Addr->Prop
 | nil:rD H [] [] []
 | cons {v:V} {d:ξ} {L:List Addr} {vs:List V} {ds:List ξ} {L':List Addr}:VL H v d L->rD H vs ds L'->rD H (v::vs) (d::ds) (L++L')
end
section
variable {src:List (Option Nat)} {te:TE} {σ:St} {H:Hp} {Q:VK}
theorem YdX {lo c:Int} {n:Nat} {P:Hp->Prop}:XU (vG lo c n) P ((a9 n).map fun (i:Nat)=>V.int (lo+i*c)):=fun H hq i=>by
 refine ⟨fun x hx=>?_,fun hi=>by show n<=i;simpa using hi⟩;have hi:i<n:=by
  have:=(Η.mp hx).1;simpa using this
 refine ⟨hi,fun y H' ⟨e1,e2⟩=>⟨e2,?_⟩⟩;rw [Υ,eP hi] at hx
 rw [e1];exact Ε hx
def U5 (n c m:Nat):Prop:=(∀ i,i<m->i*c<n)/\n<=m*c
theorem U5.uniq {n c m m':Nat} (h:U5 n c m) (h':U5 n c m'):m=m':=by
 rcases Nat.lt_trichotomy m m' with c1 | c1 | c1
 ·have:=h'.1 m c1;have:=h.2;omega
 ·exact c1
 ·have:=h.1 m' c1;have:=h'.2;omega
theorem YdY {n c:Nat} (hc:0<c):∃ m:Nat,af 0 n c=m/\U5 n c m:=by
 rw [U3 (by omega)];by_cases h:(0:Int)<n
 ·refine ⟨(n - 1) / c+1,?_,fun i hi=>?_,?_⟩
  ·rw [if_pos h]
   have:(n:Int) - 0 - 1=((n - 1:Nat):Int):=by omega
   rw [this];rfl
  ·have h1:i*c<=(n - 1) / c*c:=Nat.mul_le_mul_right c (by omega)
   have h2:=Nat.div_mul_le_self (n - 1) c;omega
  ·have h1:=Nat.div_add_mod (n - 1) c
   have h2:=Nat.mod_lt (n - 1) hc;rw [Nat.add_mul,Nat.mul_comm];omega
 ·exact ⟨0,by rw [if_neg h];rfl,fun i hi=>absurd hi (by omega),by omega⟩
end
theorem YdZ (s:String):ce (ah s)=true:=by
 rw [Str.ofString_eq_byList];unfold ce Str.ofStringByList;rw [Array.all_eq_true'];intro c hc;rw [List.mem_toArray,ae] at hc
 obtain ⟨x,_,rfl⟩:=hc;have h:=x.valid;simp only [decide_eq_true_eq];simp only [UInt32.isValidChar,Nat.isValidChar] at h
 show x.val.toNat<_
 omega
end L2
namespace L2
open PySem
section
variable {src:List (Option Nat)} {te:TE} {σ:St} {H:Hp} {Q:VK}
theorem Vv {ta:TA} {n:Nat} (I:Addr->Nat->List V->Hp->Prop) (ha:∀ R:List V->Hp->Prop,R [.int n] H->ta σ H R) (hlen:n<=100000)
  (i0:∀ D,H D=none->I D 0 [] (upd H D (.lst []))) (dl:∀ D i zs H',I D i zs H'->zs.length=i/\H' D=some (.lst zs))
  (step:∀ D (i:Nat) zs H',H D=none->i<n->I D i zs H'->∀ R:VK,(∀ y aJ,aJ D=some (.lst zs)->I D (i+1) (zs++[y]) (upd aJ D (.lst (zs++[y])))->R y aJ)->te (some (.int i)::YJ src σ) H' R)
  (fin:∀ D zs H',H D=none->I D n zs H'->Q (.ref D) H'):je (none::src) (yU ta) (YW 0) Wj te σ H Q:=by
 refine ha _ ⟨n,rfl,by omega,by omega,fun D hD=>?_⟩;have h6:100000<sizeLine:=by decide
 refine UG (YaB (lo:=0) (n:=n) (P:=fun _=>True)) (fun i zs σ' H'=>(∃ o,σ'=o::YJ src σ)/\i<=n/\I D i zs H') ⟨⟨none,rfl⟩,ar _,i0 D hD⟩ (fun i zs σ' H' q=>⟨trivial,(dl _ _ _ _ q.2.2).2⟩) (Wk 0) ?_ ?_
 ·rintro i zs σ' H' x hx ⟨⟨o,rfl⟩,_,hI⟩
  have hi:i<n:=by have:=(Η.mp hx).1;simpa using this
  rw [Υ,eP hi] at hx
  have e:V.int (0+(i:Int))=x:=Ε hx;rw [Int.zero_add] at e
  subst e;have hl:=(dl _ _ _ _ hI).1
  show te (some (.int i)::YJ src σ) H' _
  exact step D i zs H' hD hi hI _ fun y aJ hd hI'=>⟨hd,by omega,⟨_,rfl⟩,hi,hI'⟩
 ·rintro zs σ' H' ⟨_,_,hI⟩
  exact fin D zs H' hD (by simpa using hI)
end
end L2
namespace L2
open PySem PySem.Spec PyProof.Rows
theorem KR {P:Ρ} {w:Ω} {X:Cx}:X1 (m5 P w) X (fun _ _ _=>False):=by
 intro pins σ H s e s' I h;obtain ⟨_,_,_,_,_,_,_,_,_,_,z⟩:=h;exact z.elim
def tNo:TE:=fun _ _ _=>False
theorem Yd0 {X:Cx} {e:Expr}:PE X e tNo:=fun _ _ _ _ _ _ h=>h.elim
def KY (K:Ι) (cv:Α) (sp:Sp) (t:TA) (j:Nat) (ts:TS):TS:=fun D σ H=>t σ H fun vs H1=>sp (vs++[]) H1 (fun v H2=>D.nx σ H2) (fun cls dc H2=>ka K cls cv=some true/\∀ a,H2 a=none->ts (D.gone j) (σ.set j (some (.ref a))) (upd H2 a (XX a cls dc)))
section
variable {g:Gx} {X:Cx} {k jj j:Nat} {f c n:Str} {ps:List Str} {sp:Sp} {e:Expr} {es:List Expr} {t:TA} {ts:TS} {b₀:Stmt} {suite:List Stmt} {cv:Α} {fp cp hpos apos cpos pos:Pos}
theorem Yft (F:g.fV jj f ps sp) (hr:aO k X.A) (hN:X.N.Nodup) (hj:X.N[j]?=some n) (hk:X.env.scope.names.lookup n=some .local) (ha:PA X.eZ (e::es) t) (hcm:g.mg c=some cv) (zW:∀ a,eH (X.caught a) (b₀::suite) ts)
  (hjk:jj<=k) (hX:X.gx=g) (hs:X.stack=X.env::X.outer) (hf:X.env.frame=some X.env.locals) (hg:Gl X f) (hc:Gl X c) (hdf:(f==("__debug__":Str))=false) (hdb:(c==("__debug__":Str))=false)
  (he:Τ (e::es) X.env=(false,eval e X.env)::Τ es X.env) (hpl:(be cpos (Τ es X.env)).any (·.1)=false)
  (hsw:kr (.Call (.Name f fp) (e::es) [] cpos) none apos.line X.env=pure false) :
  PS X (.Try [.Expr (.Call (.Name f fp) (e::es) [] cpos) apos] [.ExceptHandler (some (.Name c cp)) (some n) (b₀::suite) hpos] [] [] pos) (KY X.K cv sp t j ts):=by
 subst hX;intro pins s σ H D I h;obtain ⟨fa,fd,F,b,kp,hm⟩:=F;refine wpAny_Try_except ?_;refine gy ?_;refine wpAny_Expr_any (aG (Q:=EP X pins σ fun v H2=>D.nx σ H2) ?_ fun v s1 hz=>?_) I.quiet hsw
 ·refine bz (X8 I hg hm ?_ hdf)
  refine dn (h₀:=X.base) I.ok.mod.jc kp (aa (ha cpos pins s σ H _ (I.wish _) h) (fun us s1 hz=>?_) fun _ _ z=>z.elim) he hpl;obtain ⟨vs,H1,I1,r,q⟩:=hz;have I1:=I1.dM;refine ⟨I1.bf,?_⟩;have r2:Yz (vs++[]) (us++[]):=r.append .nil;have hl:(us++[]).length=ps.length:=by rw [<- r2.length];exact F.len _ _ _ _ q
  refine iE (fF (F.run X.A X.stack s1 H1 ⟨us,[]⟩ (us++[]) (vs++[]) _ _ (hr.mono hjk) I1.env0 (b s1 us I1.bf hl) r2 q) fun r s' hq=>?_)
  cases r with
  | error e=>exact I1.yw hs hf hN hj hk hq zW hc hcm hdb
  | ok fl =>
   cases fl with
   | ret u=>exact I1.after hq
   | next=>exact az hq
   | brk=>exact az hq
   | cont=>exact az hq
 ·obtain ⟨y,H1,I1,r1,q1⟩:=hz
  exact fh (fh ⟨_,H1,I1,q1⟩)
end
def Yfu (l:List Str) (v:Str):List Str:=if l.any (·==v) then l else l++[v]
def met (val:Nat->Str) (i:Nat):List Str:=((a9 i).map val).foldl Yfu []
def Rr (a:Addr) (n:Nat):HO := .ext fun h=>∃ (o:Obj) (es:Array (Int×Α)) (ep:Nat) (t:SetTable),h.get? a=some o/\o.ExactSet/\o.data = .set es ep t/\t.fits es.size=true/\es.size=n/\n<scanBound
def RV:TT:=fun _ _ _=>False
theorem Yd1 {X:Cx} {e:Expr}:PT X e RV:=fun _ _ _ _ _ _ h=>h.elim
theorem Qt {xs:List V} {its:List Α} (r:Yz xs its):∀ idx:List Nat,∃ ys,Yz ys (idx.filterMap (its.toArray[·]?))/\(∀ v∈ys,v∈xs)/\ys.length<=idx.length
 | []=>⟨[],.nil,(fun v h=>absurd h (by simp)),Ν _⟩
 | i::idx=>by
  obtain ⟨ys,h1,h2,h3⟩:=Qt r idx
  cases hx:xs[i]? with
  | none =>
   have hn:=r.none_of hx;refine ⟨ys,?_,h2,by rw [ai];omega⟩;rw [cS,show its.toArray[i]?=none by simpa using hn];exact h1
  | some x =>
   obtain ⟨u,hu,ru⟩:=r.get hx;refine ⟨x::ys,?_,?_,by rw [ai,ai];omega⟩
   ·rw [cS,show its.toArray[i]?=some u by simpa using hu]
    exact .cons ru h1
   ·intro v hv
    rcases Ψ.mp hv with rfl | hv
    ·exact Χ hx
    ·exact h2 v hv
section
variable {X:Cx} {e lo st:Expr} {te tl ts:TE} {pos p2:Pos}
def U6 (K:Ι) (te tl ts:TE):TE:=fun σ H Q=>te σ H fun x H1=>tl σ H1 fun y H2=>ts σ H2 fun z H3 =>
 ∃ (a:Addr) (xs:List V) (k n:Int),x = .ref a/\y = .int k/\z = .int n/\0<=k/\0<n/\aA K H3 a xs/\∀ p ys,H3 p=none->(∀ v∈ys,v∈xs)->ys.length<=xs.length->Q (.ref p) (upd H3 p (.lst ys))
theorem Yc3 (he:PE X e te) (hl:PE X lo tl) (hs:PE X st ts):PE X (.Subscript e (.Slice (some lo) none (some st) p2) pos) (U6 X.K te tl ts):=by
 intro pins s σ H Q I h;refine kK (aG (he pins s σ H _ I h) fun v s1 ⟨x,H1,I1,r1,q1⟩=>?_);refine wpAny_Slice ?_;rw [ku];refine aG (hl pins s1 σ H1 _ I1 q1) fun ul s2 ⟨y,H2,I2,r2,q2⟩=>?_
 rw [kC];refine Ο ?_;rw [ku];refine aG (hs pins s2 σ H2 _ I2 q2) fun u s3 ⟨z,H3,I3,r3,q3⟩=>?_
 obtain ⟨a,xs,k,n,rfl,rfl,rfl,hk,hn,hx,q⟩:=q3;obtain ⟨t1,rfl⟩:=r2;obtain ⟨t2,rfl⟩:=r3
 cases r1
 have I4:Inv X pins σ H3 { s3 with heap:=s3.heap.push { cls := .type "slice",data := .fields #[.int k t1,.none,.int n t2] } }:=I3.kept (t':=s3.toks) fun b ob q=>Ζ _ q
 obtain ⟨its,r,ht,hz⟩:=I4.list hx;have hlen:=r.length;obtain ⟨ys,v1,v2,v3⟩:=Qt r (sliceRange (cE (some k) none (some n) its.toArray.size).1 (cE (some k) none (some n) its.toArray.size).2.1 (cE (some k) none (some n) its.toArray.size).2.2);have hb:cE (some k) none (some n) its.toArray.size=(max 0 (min k its.length),(its.length:Int),n):=by
  simp only [cE,Option.getD_some,ς];rw [if_neg (show ¬ k<0 by omega),if_pos (show n>0 by omega),if_pos (show n>0 by omega)]
 have hle:ys.length<=its.length:=by
  refine ap v3 ?_;rw [hb];exact sliceRange_length_le _ _ _ _ (fun _=>⟨by dsimp only;omega,by dsimp only;omega⟩) (fun z=>absurd (show n>0 by omega) z)
 have hg:=wpAny_getItem_list_slice (prog:=X.prog) (w:=X.w) (A:=X.A) (E:=X.xe) (Q:=EP X pins σ Q) ht.isList (Heap.IsSliceOf.new ..) (.int k t1) .none (.int n t2) (by intro z;have:=Ε z;omega) (by
  refine ⟨.ref _,_,I4.laid (t':=_) (o := .lst ys) (fun b ob q=>Ζ _ q) (Ν _) ?_,rfl,q _ _ (I4.hok.fresh (Ν _)) v2 (by omega)⟩;exact ⟨by omega,_,0,v1,δ _ rfl⟩) (by rw [ς]<;>omega)
 exact tail_any (ops:=[.ref a,.ref s3.heap.objs.size]) ht.isList.typeIs slot_list_getitem.lookup hg (by with_unfolding_all rfl)
end
structure vH (K:Ι) (B:Addr) (m:Str) (f:Addr):Prop where
 ga:la K (.ref B) "__getattribute__"=some (some (.builtin "type.__getattribute__"))
 rd:W.readsIn K B (.type "type")=true
 at_:W.findCls K (.ref B) (.type "type") m=some (.val (.ref f))
 kp:dP K (.ref f)=true
def Gx.Cf (g:Gx) (k:Nat) (x m:Str) (ps:List Str) (sp:Sp):Prop:=∃ B f fd,bG g.P g.w g.K g.mg g.base dG k f fd ps sp/\Xh g.K fd ps []/\vH g.K B m f/\g.mg x=some (.ref B)
def Gx.m6 (g:Gx) (x m qual:Str) (st:Stmt) (ps:List Str):Prop:=∃ B f fd,gU g.K m qual st f fd/\Xh g.K fd ps []/\vH g.K B m f/\g.mg x=some (.ref B)
theorem Gx.Cf.mono {g:Gx} {j k:Nat} {x m:Str} {ps:List Str} {sp:Sp} (F:g.Cf j x m ps sp) (h:j<=k):g.Cf k x m ps sp:=by
 obtain ⟨B,f,fd,F,r⟩:=F;exact ⟨B,f,fd,F.mono h,r⟩
section
variable {g:Gx} {X:Cx} {k j:Nat} {x m:Str} {ps:List Str} {sp:Sp} {e:Expr} {es:List Expr} {t:TA} {p pos apos:Pos}
theorem KZ {pl:Sem Bool} (F:g.Cf j x m ps sp) (hr:aO k X.A) (ha:PA X (e::es) t) (hj:j<=k) (hX:X.gx=g) (hg:Gl X x) (hdb:(x==("__debug__":Str))=false)
  (hst:Τ (e::es) X.env=(false,eval e X.env)::Τ es X.env) (hpl:(be pos (Τ es X.env)).any (·.1)=false)
  (ht:eval (.Call (.Attribute (.Name x p) m apos) (e::es) [] pos) X.env=(do
   let ov <- eval (.Name x p) X.env
   standAt apos.atName
   let (f,first) <- holding [ov] (i9 ov m pl)
   kP pos f first (be pos (Τ (e::es) X.env)) (kQ pos (i3 [] X.env)))):PE X (.Call (.Attribute (.Name x p) m apos) (e::es) [] pos) (V3 sp [] E0 t):=by
 subst hX;obtain ⟨B,f,fd,F,b,c,hm⟩:=F;intro pins s σ H Q I h;refine PySem.W.methodCall_KW (pl:=pl) (aG (Xm (g:=X.gx) (pos:=p) hm rfl hg hdb pins s σ H (fun v H1=>v = .ref B/\H1=H) I ⟨rfl,rfl⟩) fun u s1 ⟨v,H1,I1,rv,e1,e2⟩=>?_) ht;subst e1 e2;obtain rfl:u=ζ B:=rv;refine PySem.W.method_cls I1.bf c.ga (PySem.W.cls_value I1.bf c.rd c.at_ rfl ?_);have I2:=I1.tok (s1.toks+1);refine dn (h₀:=X.base) I.ok.mod.jc c.kp (aG (ha pos pins _ σ H1 _ I2 h) fun us s2 ⟨vs,H2,I3,r,q2⟩=>⟨I3.bf,?_⟩) hst hpl;exact Vg (cN:=[]) (ds:=[]) F (hr.mono hj) b .nil W3 I3 r q2
end
def La:R2:=fun y x H Q=>∃ a o,x = .ref a/\uN H a y o/\Q (.bl (!o.isSome)) H
def z9:R2:=fun y x H Q=>∃ a o,x = .ref a/\uN H a y o/\Q (.bl o.isSome) H
section
variable {K:Ι} {h:Heap} {mg:Str->Option Α} {P:Ρ} {w:Ω} {base:Heap} {f B:Addr} {x qual m:Str} {st:Stmt} {ps N:List Str} {oc kV dc pm cd ct:Α} {od an:Option Addr} {sl:Array (Option Α)} {g:Gx} {k:Nat} {sp:Sp}
theorem Gx.m6.cf (R:g.m6 x m qual st ps) (S:ak N ps (Yi st)) (len:∀ vs H Q E,sp vs H Q E->vs.length=ps.length) (b:VR g k N qual st sp):g.Cf (k+1) x m ps sp:=by
 obtain ⟨B,f,fd,F,bd,c,hm⟩:=R;exact ⟨B,f,fd,F.ok S len fun cdv A outer s H vs Q E hr h=>b f cdv A outer s H vs Q E hr h,bd,c,hm⟩
theorem Yfv (X:K.In h) (G:h.Ns aw mg) (ps:List Str) (aB:js K aw x=some (some (.ref B))) (ga:PySem.W.specialIn K (.ref B) "__getattribute__"=some (some (.builtin "type.__getattribute__")))
  (rd:PySem.W.readsIn K B (.type "type")=true) (a:PySem.W.findCls K (.ref B) (.type "type") m=some (.val (.ref f)))
  (l:K.lookup f=some ⟨oc,od,.func (cr m qual (Y9 st) (YV st) (Yi st) .none kV dc pm an cd ct),sl⟩) (c:gf K cd qual=true) (k:dP K (.ref f)=true)
  (b:∀ (kV doc pm:Α) (an:Option Addr) (cdv ct:Α) (us:List Α),us.length=ps.length->gi (cr m qual (Y9 st) (YV st) (Yi st) .none kV doc pm an cdv ct) ⟨us,[]⟩=pure (ps.zip us)) :
  ∀ P w base,(Gx.mk P w K mg base).m6 x m qual st ps:=fun P w base =>
 have F:=WR (st:=st) l c k
 ⟨B,f,_,F,F.binds b,⟨ga,rd,a,k⟩,gV X G aB⟩
end
end L2
namespace L2
def Lb (a b:TE):TE:=fun σ H Q=>a σ H Q\/b σ H Q
end L2
namespace L2
open PySem PySem.Spec PyProof.Rows
section
variable {g:TG} {tb:TS} {D:Ends} {σ:St} {H:Hp}
theorem Vw {K:Ι} {ta:TA} {a:Addr} {xs:List V} (Pv:Nat->St->Hp->Prop) (ha:∀ R:List V->Hp->Prop,R [.ref a] H->ta σ H R) (h0:Pv 0 σ H) (hl:∀ i σ H,i<=xs.length->Pv i σ H->aA K H a xs)
  (hs:∀ i x σ H T,xs[i]?=some x->Pv i σ H->H T=none->g (.ref T) σ (upd H T (.tup [.int (i:Int),x])) fun σ2 H2=>tb { D with nx:=Pv (i+1),ct:=Pv (i+1),bk:=D.nx } σ2 H2) (hd:∀ σ H,Pv xs.length σ H->D.nx σ H):Vt (Kp K ta) g tb D σ H:=by
 refine ha _ ⟨a,xs,rfl,hl 0 σ H (ar _) h0,?_⟩;refine ⟨fun i m σ H=>m=xs.length - i/\i<=xs.length/\Pv i σ H,⟨xs.length,by simp,ar _,h0⟩,?_⟩;rintro i m σ H ⟨rfl,hi,p⟩;have q:=hl i σ H hi p;by_cases hlt:i<xs.length
 ·have hx:xs[i]?=some xs[i]:=Λ hlt
  refine .inr ⟨⟨xs,_,q,hx⟩,Pv (i+1),fun σ' H' p'=>⟨xs.length - (i+1),by omega,rfl,hlt,p'⟩,?_⟩;rintro v H' ⟨T,rfl,hT,heq⟩;have e:=heq xs _ q hx;subst e;exact hs i _ σ H T hx p hT
 ·have e:i=xs.length:=by omega
  subst e;exact .inl ⟨⟨xs,q,Ν _⟩,hd σ H p⟩
end
end L2
namespace L2
open PySem
theorem U7 {X:Cx} {K:Ι} (h:X.K=K:=by rfl):XC X (.type "tuple") (fun xs H Q=>∃ p ys,xs=[.ref p]/\((aA K H p ys/\∀ l,H l=none->Q (.ref l) (upd H l (.tup ys)))\/aq K H p ys/\Q (.ref p) H)):=by subst h;exact Xz
end L2
namespace L2
open PySem PySem.Spec PyProof.Rows
abbrev cY (f:Addr) (fd:ba):HO := .ext fun h=>h.get? f=some { cls := .type "function",data := .func fd }
abbrev fX (c:Addr) (q:Str):HO := .ext fun h=>h.CodeRec (.ref c) q
abbrev WM (c:Addr) (v:V):HO := .ext fun h=>∃ u,YH v u/\h.IsCell c (some u)
section
variable {P:Ρ} {w:Ω} {H H':Hp} {h h':Heap}
theorem Aa {f:Addr} {fd:ba} (e:h.get? f=some { cls := .type "function",data := .func fd }):YO P w H h f (cY f fd):=⟨e,⟨_,e⟩,fun _ _ p k=>k _ p⟩
theorem Yf6 {c:Addr} {q:Str} (e:h.CodeRec (.ref c) q):YO P w H h c (fX c q):=by
 obtain ⟨c',o,vs,t,e1,e2,e3⟩:=id e
 cases e1
 refine ⟨e,⟨_,e2⟩,fun h1 h2 p k=>?_⟩;obtain ⟨c',o,vs,t,e1,e2,e3⟩:=p
 cases e1
 exact ⟨c,o,vs,t,rfl,k _ e2,e3⟩
theorem Uq {c:Addr} {v:V} {u:Α} (r:YH v u) (e:h.IsCell c (some u)):YO P w H h c (WM c v):=by
 obtain ⟨o,e1,e2⟩:=id e;refine ⟨⟨u,r,e⟩,⟨_,e1⟩,fun h1 h2 p k=>?_⟩;obtain ⟨u,r,o,e1,e2⟩:=p;exact ⟨u,r,o,k _ e1,e2⟩
theorem bD.track {c:Addr} {o:HO} (x:bD P w H h) (hn:H c=none) (new:YO P w (upd H c o) h c o):bD P w (upd H c o) h:=fun b u e=>by
 by_cases hb:b=c
 ·subst hb;rw [Yb] at e;cases e;exact new
 ·rw [Ye hb] at e
  exact (x b u e).stay (fun _ _ _ q=>q) (fun d q=>by rw [Ye (Yj q hn)];exact q) fun d xs q=>by rw [Ye (Yj q hn)];exact q
end
def off (H:Hp) (cs:List Addr):Hp:=fun b=>if b∈cs then none else H b
def on (H' H:Hp) (cs:List Addr):Hp:=fun b=>if b∈cs then H b else H' b
section
variable {H H':Hp} {cs:List Addr} {b:Addr} {o:HO}
theorem Vm (h:b∈cs):off H cs b=none:=if_pos h
theorem YZ (h:b∉cs):off H cs b=H b:=if_neg h
theorem V4 (h:b∈cs):on H' H cs b=H b:=if_pos h
theorem Xd (h:b∉cs):on H' H cs b=H' b:=if_neg h
theorem XG (h:H b=none):off H cs b=none:=by unfold off;split<;>first | rfl | exact h
theorem VU (h:off H cs b=some o):H b=some o/\b∉cs:=by
 by_cases hb:b∈cs
 ·rw [Vm hb] at h;cases h
 ·rw [YZ hb] at h;exact ⟨h,hb⟩
end
abbrev YB:=List (Str×Addr×V)
def YB.cl (l:YB):List (Str×Addr):=l.map fun p=>(p.1,p.2.1)
def YB.as (l:YB):List Addr:=l.map fun p=>p.2.1
def YB.vs (l:YB):List V:=l.map fun p=>p.2.2
def YB.In (l:YB) (H:Hp):Prop:=∀ p∈l,H p.2.1=some (WM p.2.1 p.2.2)
section
variable {l:YB} {H:Hp}
theorem Xf {c:Addr} (h:c∈l.as):∃ p∈l,p.2.1=c:=by
 obtain ⟨p,hp,e⟩:=ae.mp h;exact ⟨p,hp,e⟩
theorem Wl:∀ {l:YB} {x:Str} {c:Addr},l.cl.lookup x=some c->∃ p∈l,p.1=x/\p.2.1=c
 | p::l,x,c,h=>by
  rw [YB.cl,aS,ι] at h
  cases hb:x==p.1 with
  | true=>rw [hb] at h;exact ⟨p,.head _,(eq_of_beq hb).symm,Ε h⟩
  | false =>
   rw [hb] at h
   obtain ⟨q,h1,h2⟩:=Wl (l:=l) h;exact ⟨q,.tail _ h1,h2⟩
theorem VV:∀ {l:YB},(l.map (·.1)).Nodup->∀ p∈l,l.cl.lookup p.1=some p.2.1
 | a::q,nd,p,hp=>by
  rw [aS,bg] at nd
  rw [YB.cl,aS,ι];rcases Ψ.mp hp with rfl | hp
  ·simp
  ·have:(p.1==a.1)=false:=by
    rw [beq_eq_false_iff_ne];intro z;exact nd.1 (z▸di hp)
   rw [this];exact VV nd.2 p hp
theorem U8 {b:Addr} {xs:List V} (hl:l.In H) (h:H b=some (.tup xs)):off H l.as b=some (.tup xs):=by
 rw [YZ fun hb=>?_]
 ·exact h
 ·obtain ⟨p,hp,rfl⟩:=Xf hb
  rw [hl p hp] at h;cases h
theorem V5 {b:Addr} {o:HO} (hl:l.In H) (h:H b=some o) (ho:∀ φ,o ≠ .ext φ):off H l.as b=some o:=by
 rw [YZ fun hb=>?_]
 ·exact h
 ·obtain ⟨p,hp,rfl⟩:=Xf hb
  rw [hl p hp] at h
  exact ho _ (Ε h).symm
theorem Yfw {P:Ρ} {w:Ω} {h:Heap} (hl:l.In H) (x:bD P w H h):bD P w (off H l.as) h:=fun b o e=>by
 obtain ⟨e1,e2⟩:=VU e;refine (x b o e1).stay (fun _ _ _ q=>q) (fun c q=>V5 hl q fun φ z=>by cases z) fun c xs q=>U8 hl q
end
def VW (P:Ρ) (w:Ω) (K:Ι) (mg:Str->Option Α) (base:Heap) (N:List Str) (qual:Str) (scope:da) (f:Addr) (cd:Α) (cl:List (Str×Addr)) (A:η) (outer:List Env) (s:Β) (H:Hp):Cx where
 prog:=P
 w:=w
 K:=K
 mg:=mg
 base:=base
 A:=A.deeper (W.envX qual scope s.heap.objs.size f cd cl)
 N:=N
 s₀:=s
 H₀:=H
 env:=W.envX qual scope s.heap.objs.size f cd cl
 outer:=outer
 stack:=W.envX qual scope s.heap.objs.size f cd cl::outer
 ex:=[]
 calm:=true
 fn:=fun _=>false
 pn:=[]
 xe:=fun _ _=>False
structure dU (N ps:List Str) (l:List Str) (sc:da):Prop where
 kind:sc.kind = .function
 co:sc.isCoroutine=false
 gen:sc.isGenerator=false
 nd:N.Nodup
 pre:N.take ps.length=ps
 suf:N.drop (N.length - l.length)=l
 len:ps.length+l.length<=N.length
 par:∀ x∈ps,sc.names.lookup x=some .local
 fre:∀ x∈l,sc.names.lookup x=some .free
 jT:∀ y∈sc.names,y.2 ≠ .cell
 all:∀ y∈sc.names,y.2 = .free->y.1∈l
def WV (N:List Str) (vs fv:List V):St:=vs.map some++List.replicate (N.length - vs.length - fv.length) none++fv.map some
section
variable {P:Ρ} {w:Ω} {K:Ι} {mg:Str->Option Α} {base:Heap} {N ps:List Str} {qual name:Str} {scope:da} {f c:Addr} {A:η} {outer:List Env} {s:Β} {H:Hp} {us:List Α} {vs:List V} {l:YB} {cd:Α}
theorem U9:∀ {ps:List Str} {us:List Α} {i:Nat} {x:Str} {u:Α},ps.Nodup->ps[i]?=some x->us[i]?=some u->(ps.zip us).reverse.lookup x=some u:=by
 intro ps us i x u nd h1 h2;have hm:(x,u)∈ps.zip us:=Χ (show (ps.zip us)[i]?=some (x,u) from List.getElem?_zip_eq_some.mpr ⟨h1,h2⟩);have key:∀ (q:List (Str×Α)),(q.map (·.1)).Nodup->(x,u)∈q->q.lookup x=some u:=by
  intro q
  induction q with
  | nil=>intro _ h;cases h
  | cons a q ih =>
   intro nd h;rw [ι];rw [aS,bg] at nd
   rcases Ψ.mp h with rfl | h
   ·simp
   ·have:(x==a.1)=false:=by
     rw [beq_eq_false_iff_ne];intro z;exact nd.1 (z▸di h)
    rw [this];exact ih nd.2 h
 refine key _ ?_ (List.mem_reverse.mpr hm);rw [List.map_reverse];have hz:∀ (ps:List Str) (us:List Α),ps.Nodup->((ps.zip us).map (·.1)).Nodup/\∀ z∈(ps.zip us).map (·.1),z∈ps:=by
  intro ps
  induction ps with
  | nil=>intro us _;simp
  | cons a ps ih =>
   intro us nd
   cases us with
   | nil=>simp
   | cons u us =>
    have nd':=bg.mp nd;obtain ⟨i1,i2⟩:=ih us nd'.2;rw [List.zip_cons_cons,aS];refine ⟨bg.mpr ⟨fun hm=>nd'.1 (i2 _ hm),i1⟩,fun z hz=>?_⟩;rcases Ψ.mp hz with rfl | hz
    ·exact .head _
    ·exact .tail _ (i2 z hz)
 exact List.pairwise_reverse.mpr ((hz ps us nd).1.imp fun h=>ψ h)
theorem UL {h1:Heap} {tk:Nat} (S:dU N ps (l.map (·.1)) scope) (hnd:l.as.Nodup) (hd:A.handled=none) (e0:fQ P w K mg base A outer s H) (hl:vs.length=ps.length) (r:Yz vs us) (cellAt:∀ p∈l,∃ u,YH p.2.2 u/\s.heap.IsCell p.2.1 (some u)) (hoff:bD P w (off H l.as) s.heap)
  (hns:h1.Ns s.heap.objs.size (fun x=>(ps.zip us).reverse.lookup x)) (hk:∀ b o,s.heap.get? b=some o->h1.get? b=some o) :
  Inv (VW P w K mg base N qual scope f cd l.cl A outer s (off H l.as)) [] (WV N vs l.vs) (off H l.as) { s with heap:=h1,toks:=tk }:=by
 have ahV:l.cl.map (·.1)=l.map (·.1):=by rw [YB.cl,List.map_map];rfl
 have ndN:(l.map (·.1)).Nodup:=by rw [<- S.suf];exact S.nd.sublist (iP _ _)
 have jP:∀ b:Addr,b∉(VW P w K mg base N qual scope f cd l.cl A outer s (off H l.as)).ex:=fun b z=>absurd (show b∈([]:List Addr) from z) (by simp)
 have lk:=VV ndN;have RW:∀ p∈l,∀ q∈l,p.2.1=q.2.1->p=q:=fun p hp q hq e=>by
  obtain ⟨i,hi,e1⟩:=ia hp;obtain ⟨j,hj,e2⟩:=ia hq;have h1:l.as[i]?=some p.2.1:=by rw [YB.as,Υ,Λ hi,e1];rfl
  have h2:l.as[j]?=some p.2.1:=by rw [YB.as,Υ,Λ hj,e2,e];rfl
  have hij:i=j:=by
   obtain ⟨g1,g2⟩:=Η.mp h1;obtain ⟨g3,g4⟩:=Η.mp h2;exact (List.getElem_inj hnd).mp (g2.trans g4.symm)
  subst hij;rw [<- e1,<- e2]
 refine ⟨⟨e0.mod,S.kind,rfl,rfl,Ν _,fun y z c h1 h2=>?_,fun y hy=>?_,fun y c h _=>absurd h (by show ¬ (false=true);decide),fun _=>hd,Around.frames_deeper e0.frames,.inr ⟨rfl,rfl⟩,fun b z=>absurd z (jP b),fun b o e=>⟨(e0.bs b o e).1,XG (e0.bs b o e).2⟩,e0.gR,fun b _ _=>jP b,fun b z=>absurd z (jP b),e0.dz,fun b hb=>XG (e0.iz b hb)⟩,
  rfl,e0.bare,Un.kept hk,⟨_,hns,fun i y v h1 h2 h3=>?_⟩,fun y c h=>?_,XG (e0.hok.fresh (Ν _)),fun y c h=>?_,fun p hp=>absurd (show p∈([]:List (Addr×Obj)) from hp) (by simp),hoff.kept hk,?_⟩
 ·obtain ⟨p,hp,e1,e2⟩:=Wl h1
  obtain ⟨q,hq,e3,e4⟩:=Wl h2;have:=RW p hp q hq (e2.trans e4.symm);rw [<- e1,<- e3,this]
 ·have hy:scope.names.lookup y=some .cell\/scope.names.lookup y=some .free:=hy
  rcases hy with hy | hy
  ·exact absurd rfl (S.jT _ (b9 hy))
  ·obtain ⟨p,hp,e⟩:=ae.mp (S.all _ (b9 hy) rfl)
   exact ⟨p.2.1,by show l.cl.lookup y=_;rw [<- show p.1=y from e];exact lk p hp⟩
 ·have hvl:l.vs.length=(l.map (·.1)).length:=by rw [YB.vs,Θ,Θ]
  have hsl:=S.len;unfold WV at h2;by_cases hi:i<vs.length
  ·have ha:vs[i]?=some v:=by
    rw [List.append_assoc,υ (by simpa using hi),Υ] at h2
    cases e:vs[i]? with
    | none=>rw [e] at h2;cases h2
    | some a=>rw [e] at h2;cases h2;rfl
   obtain ⟨u,hu,rv⟩:=r.get ha;have hp:ps[i]?=some y:=by
    rw [<- S.pre,List.getElem?_take_of_lt (by omega)];exact h1
   have vf:ps.Nodup:=by rw [<- S.pre];exact S.nd.sublist (List.take_sublist _ _)
   exact ⟨u,rv,.inl ⟨S.par y (Χ hp),U9 vf hp hu⟩⟩
  ·by_cases hi2:i<vs.length+(N.length - vs.length - l.vs.length)
   ·rw [υ (by rw [Κ,Θ,et];exact hi2),ac (by rw [Θ];omega),List.getElem?_replicate] at h2
    split at h2<;>cases h2
   ·rw [ac (by rw [Κ,Θ,et];omega),Κ,Θ,et,Υ] at h2
    obtain ⟨v',hv',e⟩:=ο.mp h2
    cases e
    have hv2:(l.map fun p=>p.2.2)[i - (vs.length+(N.length - vs.length - l.vs.length))]?=some _:=hv';rw [Υ] at hv2
    obtain ⟨p,hp,rfl⟩:=ο.mp hv2;have hpm:=Χ hp;have hy:(l.map (·.1))[i - (vs.length+(N.length - vs.length - l.vs.length))]?=some y:=by
     rw [<- S.suf,List.getElem?_drop];rw [show N.length - (l.map (·.1)).length+(i - (vs.length+(N.length - vs.length - l.vs.length)))=i by omega];exact h1
    rw [Υ,hp] at hy
    have ey:p.1=y:=Ε hy;obtain ⟨u,ru,hc⟩:=cellAt p hpm;obtain ⟨o,ho,hd'⟩:=hc;refine ⟨u,ru,.inr ⟨.inr ?_,p.2.1,by show l.cl.lookup y=_;rw [<- ey];exact lk p hpm,o,hk _ _ ho,hd'⟩⟩;exact S.fre y (by rw [<- ey];exact di hpm)
 ·obtain ⟨p,hp,e1,e2⟩:=Wl (show l.cl.lookup y=some c from h)
  obtain ⟨u,ru,o,ho,hd'⟩:=cellAt p hp;exact ⟨some u,o,by rw [<- e2];exact hk _ _ ho,hd'⟩
 ·obtain ⟨p,hp,e1,e2⟩:=Wl (show l.cl.lookup y=some c from h)
  exact Vm (by rw [<- e2];exact di hp)
 ·unfold WV
  show _=N.length
  have hvl:l.vs.length=(l.map (·.1)).length:=by rw [YB.vs,Θ,Θ]
  have hsl:=S.len;rw [Κ,Κ,Θ,Θ,et];omega
theorem UM {h1:Heap} {tk:Nat} (S:dU N ps (l.map (·.1)) scope) (hnd:l.as.Nodup) (hd:A.handled=none) (e0:fQ P w K mg base A outer s H) (hl:vs.length=ps.length) (r:Yz vs us) (hin:l.In H)
  (hns:h1.Ns s.heap.objs.size (fun x=>(ps.zip us).reverse.lookup x)) (hk:∀ b o,s.heap.get? b=some o->h1.get? b=some o) :
  Inv (VW P w K mg base N qual scope f cd l.cl A outer s (off H l.as)) [] (WV N vs l.vs) (off H l.as) { s with heap:=h1,toks:=tk } :=
 UL S hnd hd e0 hl r (fun p hp=>(e0.hok _ _ (hin p hp)).1) (Yfw hin e0.hok) hns hk
theorem Ab {Q:VK} {v:V} {u:Α} {σ':St} {H':Hp} {s':Β} (e0:fQ P w K mg base A outer s H) (hin:l.In H) (J:Inv (VW P w K mg base N qual scope f cd l.cl A outer s (off H l.as)) [] σ' H' s') (hlk:∀ p∈l,l.cl.lookup p.1=some p.2.1) (rv:YH v u) (q:(∀ c∈l.as,H' c=none)->Q v (on H' H l.as)) :
  CE outer P w H s Q u s':=by
 have un:=J.base;have nin:∀ {b:Addr},H b=none->b∉l.as:=fun hb hm=>by
  obtain ⟨p,hp,rfl⟩:=Xf hm;rw [hin p hp] at hb;cases hb
 have aZ:∀ c∈l.as,H' c=none:=fun c hc=>by
  obtain ⟨p,hp,rfl⟩:=Xf hc;exact J.aZ p.1 p.2.1 (hlk p hp)
 refine ⟨v,on H' H l.as,J.os,J.bare,⟨fun b o e n hb hx=>un.keep b o e (XG n) hb hx,fun b o e n hb hx=>un.slot b o e (XG n) hb hx,fun b o e n hx=>?_,fun b o e hx=>un.there b o e hx,fun b xs e=>?_,fun b o u e=>?_,fun b ps e=>?_⟩,fun b o e=>?_,rv,q aZ⟩
 ·rw [Xd (nin n)]
  exact un.free b o e (XG n) hx
 ·have h1:=U8 hin e
  rw [Xd (VU h1).2];exact un.tups b xs h1
 ·have h1:=V5 hin e fun φ z=>by cases z
  rw [Xd (VU h1).2];exact un.bF b o u h1
 ·have h1:=V5 hin e fun φ z=>by cases z
  rw [Xd (VU h1).2];exact un.cJ b ps h1
 ·by_cases hb:b∈l.as
  ·rw [V4 hb] at e
   obtain ⟨p,hp,rfl⟩:=Xf hb;rw [hin p hp] at e
   cases e
   obtain ⟨⟨u,r,oc,ho,hd'⟩,_⟩:=e0.hok _ _ (hin p hp);refine Uq r ⟨oc,un.keep _ _ ho (Vm hb) (fun hf=>?_) (by intro z;exact absurd (show p.2.1∈([]:List Addr) from z) (by simp)),hd'⟩;have:=e0.iz _ hf;rw [hin p hp] at this;cases this
  ·rw [Xd hb] at e
   refine (J.hok b o e).stay (fun _ _ _ q=>q) (fun c q=>?_) fun c xs q=>?_
   ·rw [Xd fun hc=>?_]
    ·exact q
    ·rw [aZ c hc] at q;cases q
   ·rw [Xd fun hc=>?_]
    ·exact q
    ·rw [aZ c hc] at q;cases q
end
def Vc (H:Hp) (f c:Addr) (fd:ba) (qual:Str) (l:YB):Prop:=H f=some (cY f fd)/\H c=some (fX c qual)/\l.In H
theorem Ld {P:Ρ} {w:Ω} {K:Ι} {mg:Str->Option Α} {base:Heap} {k:Nat} {f c:Addr} {name qual:Str} {params:jb} {body:List Stmt} {scope:da} {doc pm ctv:Α} {N ps:List Str} {l:YB} {sp:List V->Hp->VK->Prop}
  (S:dU N ps (l.map (·.1)) scope) (hnd:l.as.Nodup) (len:∀ vs H Q,sp vs H Q->vs.length=ps.length)
  (hbody:∀ (A:η) (outer:List Env) (s:Β) (H:Hp) (vs:List V) (Q:VK),aO k (A.deeper (W.envX qual scope s.heap.objs.size f (.ref c) l.cl))->sp vs H Q ->
   ∃ t,eH (VW P w K mg base N qual scope f (.ref c) l.cl A outer s H) body t/\t { nx:=fun _ H'=>Q .non H',rt:=Q } (WV N vs l.vs) H) :
  bG P w K mg base dG (k+1) f (W.fnX name qual params body scope l.cl .none .none doc pm none (.ref c) ctv) ps
   (fun vs H Q _=>Vc H f c (W.fnX name qual params body scope l.cl .none .none doc pm none (.ref c) ctv) qual l/\sp vs (off H l.as) fun v H'=>(∀ c∈l.as,H' c=none)->Q v (on H' H l.as)):=by
 refine ⟨fun vs H Q E h=>len _ _ _ h.2,fun A outer s H args us vs Q E hr e0 hb r hsp=>?_⟩;obtain ⟨⟨hf,hc,hin⟩,hsp⟩:=hsp;have hl:=len _ _ _ hsp;have lim:s.heap.NoLimit:=e0.mod.nolimit.keeps fun b o e=>(e0.bs b o e).1
 have hfo:=(e0.hok _ _ hf).1;have hco:s.heap.CodeRec (.ref c) qual:=(e0.hok _ _ hc).1;have hlu:ps.length=us.length:=by rw [<- hl];exact r.length
 refine codeAny_call_function hr.depth hfo rfl S.co S.gen rfl hco (hb _ _ _ _ ?_);refine gN S.jT (fun y hy=>S.par y.1 (dy hy).1) (fun h₁ hns hsb=>?_) S.kind;have hk₁:∀ b o,s.heap.get? b=some o->h₁.get? b=some o:=fun b o e=>hsb.extBut b o (ρ (Φ e)) (Ζ _ e)
 refine ⟨lim.keeps hk₁,codeAny_func ?_⟩;obtain ⟨t,ht,hq⟩:=hbody A outer s (off H l.as) vs _ (hr.deeper _) hsp;have I:=UM (cd := .ref c) (qual:=qual) (f:=f) (tk:=s.toks+(ps.zip us).length) S hnd hr.hd e0 hl r hin hns hk₁;have lk:=VV (l:=l) (by rw [<- S.suf];exact S.nd.sublist (iP _ _));refine aa (ht [] _ _ _ _ I hq) (fun fl s' hs=>?_) fun e s' hs=>hs.elim
 cases fl with
 | ret u =>
  obtain ⟨v,σ',H',J,rv,q⟩:=hs;exact Ab e0 hin J lk rv q
 | next =>
  obtain ⟨σ',H',J,q⟩:=hs;exact Ab (v:=V.non) (u:=ck) e0 hin J lk rfl q
 | brk =>
  obtain ⟨_,_,_,q⟩:=hs;exact az q
 | cont =>
  obtain ⟨_,_,_,q⟩:=hs;exact az q
def Bm (mg:Str->Option Α) (base:Heap):Prop:=∃ bm ob,mg "__builtins__"=some (.ref bm)/\bm≠iF/\bm≠aw/\base.get? bm=some ob/\ob.cls = .type "module"/\ob.dict=some iF/\ob.data = .plain
section
variable {X:Cx} {pins:List (Addr×Obj)} {σ:St} {H:Hp} {s:Β}
theorem Inv.vI {P c':Addr} {ps more:Array Α} {h':Heap} {tk:Nat} {fd:ba} {qual:Str} (I:Inv X pins σ H s) (hP:H P=some (.aU ps)) (hx:Heap.ExtBut P s.heap h') (hge:s.heap.objs.size<=c') (hlt:c'<h'.objs.size) (hrec:h'.CodeRec (.ref c') qual) (htb:h'.get? P=some (W.tabObj (ps++more))) :
  Inv X pins σ (upd (upd (upd H P (.aU (ps++more))) c' (fX c' qual)) h'.objs.size (cY h'.objs.size fd)) { s with heap:=h'.push { cls := .type "function",data := .func fd },toks:=tk }:=by
 have hPl:P<s.heap.objs.size:=I.hok.lt hP;have hcf:s.heap.objs.size<=h'.objs.size:=ap hge (fT hlt);have rE:∀ {b:Addr},b<s.heap.objs.size->b≠c'/\b≠h'.objs.size:=fun e=>⟨ρ (χ e hge),ρ (χ e hcf)⟩
 have jE:∀ {b:Addr} {o:HO},H b=some o->b≠c'/\b≠h'.objs.size:=fun e=>rE (I.hok.lt e)
 have push:∀ b o,h'.get? b=some o->(h'.push { cls := .type "function",data := .func fd }).get? b=some o:=fun b o e=>Ζ _ e
 have hget:∀ {b:Addr},b≠P->b≠c'->b≠h'.objs.size->(upd (upd (upd H P (.aU (ps++more))) c' (fX c' qual)) h'.objs.size (cY h'.objs.size fd)) b=H b:=fun h1 h2 h3=>by rw [Ye h3,Ye h2,Ye h1]
 have Le:(upd (upd (upd H P (.aU (ps++more))) c' (fX c' qual)) h'.objs.size (cY h'.objs.size fd)) P=some (.aU (ps++more)):=by rw [Ye (rE hPl).2,Ye (rE hPl).1,Yb]
 refine I.un ⟨fun b o e n _ _=>push b o (hx b o (fun z=>by rw [z,hP] at n;cases n) e),fun b o e n _ _=>⟨o.slots,push b o (hx b o (fun z=>by rw [z,hP] at n;cases n) e)⟩,fun b o e n _=>?_,fun b o e _=>?_,fun b xs e=>?_,fun b o u e=>?_,fun b qs e=>?_⟩ fun b o e=>?_
 ·have:=Φ e
  rw [hget (fun z=>by rw [z,hP] at n;cases n) (rE this).1 (rE this).2];exact n
 ·by_cases hb:b=P
  ·subst hb;exact ⟨_,push _ _ htb⟩
  ·exact ⟨o,push b o (hx b o hb e)⟩
 ·rw [hget (YE e hP (by intro z;cases z)) (jE e).1 (jE e).2];exact e
 ·rw [hget (YE e hP (by intro z;cases z)) (jE e).1 (jE e).2];exact e
 ·by_cases hb:b=P
  ·subst hb
   rw [hP] at e;cases e
   exact ⟨more,Le⟩
  ·exact ⟨#[],by rw [hget hb (jE e).1 (jE e).2,e];simp⟩
 ·by_cases h3:b=h'.objs.size
  ·subst h3
   rw [Yb] at e;cases e
   exact Aa (δ _ rfl)
  ·by_cases h2:b=c'
   ·subst h2
    rw [Ye h3,Yb] at e;cases e
    exact Yf6 (hrec.push _)
   ·by_cases h1:b=P
    ·subst h1
     rw [Le] at e;cases e
     exact push _ _ htb
    ·rw [hget h1 h2 h3] at e
     refine (I.hok b o e).stay (fun c u hc q=>push c u (hx c u ?_ q)) (fun c q=>?_) fun c xs q=>?_
     ·rcases hc with rfl | hc
      ·exact h1
      ·exact YE hc hP (by intro z;cases z)
     ·rw [hget (YE q hP (by intro z;cases z)) (jE q).1 (jE q).2];exact q
     ·rw [hget (YE q hP (by intro z;cases z)) (jE q).1 (jE q).2];exact q
end
def vJ (P:Addr) (pos:Pos) (q:Str) (mk:Addr->ba->Prop) (H:Hp) (Q:VK):Prop:=∃ ps,H P=some (.aU ps)/\TriplesOk ps.toList /\
 ((codeAmong pos ps.toList=none/\∀ f c fd,H f=none->H c=none->f≠c->mk c fd->Q (.ref f) (upd (upd (upd H P (.aU (ps++#[db pos.line,db pos.col,.ref c]))) c (fX c q)) f (cY f fd))) \/
  ∃ c,codeAmong pos ps.toList=some (.ref c)/\∀ f fd,H f=none->mk c fd->Q (.ref f) (upd H f (cY f fd)))
section
variable {X:Cx} {c P:Addr} {name qual:Str} {params:jb} {body:List Stmt} {eb:Expr} {scope:da} {clos:List (Str×Addr)} {pos:Pos} {ln:Nat}
abbrev Ac (name qual:Str) (params:jb) (body:List Stmt) (scope:da) (clos:List (Str×Addr)) (c:Addr) (fd:ba):Prop:=∃ doc pm ctv,fd=W.fnX name qual params body scope clos .none .none doc pm none (.ref c) ctv
abbrev Lf (qual:Str) (params:jb) (body:Expr) (scope:da) (clos:List (Str×Addr)) (c:Addr) (fd:ba):Prop:=∃ pm ctv,fd=j3 "<lambda>" qual params body scope clos pm (.ref c) ctv
theorem Qu {pins:List (Addr×Obj)} {σ:St} {H:Hp} {s:Β} {ps:Array Α} (I:Inv X pins σ H s) (bm:Bm X.mg X.base) (hP:H P=some (.aU ps)):aw≠P/\s.heap.BuiltinsAt X.mg P:=by
 refine ⟨fun z=>?_,?_⟩
 ·obtain ⟨o,es,ep,e,_⟩:=I.mod.glob
  have:=(I.bs _ _ e).2;rw [z,hP] at this;cases this
 ·obtain ⟨b,ob,h1,h2,h3,h4,h5⟩:=bm
  refine ⟨b,ob,h1,h2,h3,fun z=>?_,(I.bs _ _ h4).1,h5⟩;have:=(I.bs _ _ h4).2;rw [z,hP] at this;cases this
theorem Ir {pins:List (Addr×Obj)} {σ:St} {H:Hp} {s:Β} {Q:VK} (bm:Bm X.mg X.base) (C:gt X.base c P) (hcode:X.env.code = .ref c) (hcl:jp scope X.env=pure clos) (I:Inv X pins σ H s) (h:vJ P pos qual (Ac name qual params body scope clos) H Q) :
  Μ (Ξ X.prog X.w) X.A (makeFunction name qual params (.stmts body) scope X.env [] [] [] pos ln) (EP X pins σ Q) X.xe s:=by
 obtain ⟨ps,hP,ht,h⟩:=h;obtain ⟨hgP,hb⟩:=Qu I bm hP;have rF:s.heap.get? P=some (W.tabObj ps):=I.hok P _ hP;rcases h with ⟨hnf,h⟩ | ⟨c',hf,h⟩
 ·refine W.makeFunction_K (mg:=X.mg) hcl I.ok.glob (I.mod.glob.keeps I.bk) hcode (C.keeps I.bk) rF ht hnf hgP hb fun c' ctv doc h' tk hx hge hlt hrec htb=>?_
  refine ⟨.ref h'.objs.size,_,I.vI hP hx hge hlt hrec htb,rfl,h _ _ _ (I.hok.fresh (ap hge (fT hlt))) (I.hok.fresh hge) (eK hlt) ⟨_,_,_,rfl⟩⟩
 ·refine W.makeFunction_hit (mg:=X.mg) hcl I.ok.glob (I.mod.glob.keeps I.bk) hcode (C.keeps I.bk) rF ht hf hb fun ctv doc h' tk hk hsz=>?_
  exact ⟨.ref h'.objs.size,_,I.laid (fun b o e=>Ζ _ (hk b o e)) hsz (Aa (δ _ rfl)),rfl,h _ _ (I.hok.fresh hsz) ⟨_,_,_,rfl⟩⟩
theorem Yf7 {pins:List (Addr×Obj)} {σ:St} {H:Hp} {s:Β} {Q:VK} (bm:Bm X.mg X.base) (C:gt X.base c P) (hcode:X.env.code = .ref c) (hcl:jp scope X.env=pure clos) (I:Inv X pins σ H s) (h:vJ P pos qual (Lf qual params eb scope clos) H Q) :
  Μ (Ξ X.prog X.w) X.A (makeFunction "<lambda>" qual params (.expr eb) scope X.env [] [] [] pos ln) (EP X pins σ Q) X.xe s:=by
 obtain ⟨ps,hP,ht,h⟩:=h;obtain ⟨hgP,hb⟩:=Qu I bm hP;have rF:s.heap.get? P=some (W.tabObj ps):=I.hok P _ hP;rcases h with ⟨hnf,h⟩ | ⟨c',hf,h⟩
 ·refine W.kla_makeFunction (mg:=X.mg) hcl I.ok.glob (I.mod.glob.keeps I.bk) hcode (C.keeps I.bk) rF ht hnf hgP hb fun c' ctv h' tk hx hge hlt hrec htb=>?_
  refine ⟨.ref h'.objs.size,_,I.vI hP hx hge hlt hrec htb,rfl,h _ _ _ (I.hok.fresh (ap hge (fT hlt))) (I.hok.fresh hge) (eK hlt) ⟨_,_,rfl⟩⟩
 ·refine W.kla_makeFunctionHit (mg:=X.mg) hcl I.ok.glob (I.mod.glob.keeps I.bk) hcode (C.keeps I.bk) rF ht hf hb fun ctv h' tk hk hsz=>?_
  exact ⟨.ref h'.objs.size,_,I.laid (fun b o e=>Ζ _ (hk b o e)) hsz (Aa (δ _ rfl)),rfl,h _ _ (I.hok.fresh hsz) ⟨_,_,rfl⟩⟩
def RX (i:Nat) (P:Addr) (pos:Pos) (q:Str) (mk:Addr->ba->Prop):TS:=fun D σ H=>vJ P pos q mk H fun v H'=>D.nx (σ.set i (some v)) H'
theorem Lg (i:Nat) (bm:Bm X.mg X.base) (C:gt X.base c P) (hcode:X.env.code = .ref c) (hcl:jp scope X.env=pure clos) (hN:X.N.Nodup) (hi:X.N[i]?=some name) (hx:Loc X.env.scope name) (hq:qualnameIn X.env name name=qual)
  (hd0:params.defaults=[]) (hk0:params.kw_defaults=[]) (ha:annTrees params none X.env=[]) (hf:X.fn name=true\/X.env.scope.names.lookup name=some .local) :
  PS X (.FunctionDef name params body [] none [] scope none name pos) (RX i P pos qual (Ac name qual params body scope clos)):=by
 intro pins s σ H D I h;refine W.nestDef_K hd0 hk0 ha ?_;rw [hq];refine aG (Ir bm C hcode hcl I h) fun v s1 ⟨x,H1,I1,r,q⟩=>?_
 exact Vr I1 hN hi hx r (fun s2 I2=>⟨_,H1,I2,q⟩) hf
def RZ (P:Addr) (pos:Pos) (q:Str) (mk:Addr->ba->Prop):TE:=fun _ H Q=>vJ P pos q mk H Q
theorem Lh (bm:Bm X.mg X.base) (C:gt X.base c P) (hcode:X.env.code = .ref c) (hcl:jp scope X.env=pure clos) (hq:X.env.qual++"<lambda>"=qual) (hdef:defaultsOf params X.env=([],[])) :
  PE X (.Lambda params eb scope pos) (RZ P pos qual (Lf qual params eb scope clos)):=by
 intro pins s σ H Q I h;refine W.kla_eval hdef ?_;rw [hq];exact Yf7 bm C hcode hcl I h
end
def lay (H:Hp):YB->Hp
 | []=>H
 | p::l=>upd (lay H l) p.2.1 (WM p.2.1 p.2.2)
theorem WO {H:Hp} {b:Addr}:∀ {l:YB},b∉l.as->lay H l b=H b
 | [],_=>rfl
 | p::l,h=>by
  have h1:b≠p.2.1:=fun z=>h (by rw [z];exact .head _)
  rw [lay,Ye h1];exact WO fun z=>h (.tail _ z)
theorem Ad {H:Hp}:∀ {l:YB},l.as.Nodup->l.In (lay H l)
 | [],_=>fun p hp=>by cases hp
 | q::l,nd=>fun p hp=>by
  have nd':=bg.mp nd;rcases Ψ.mp hp with rfl | hp
  ·exact Yb
  ·have hne:p.2.1≠q.2.1:=fun z=>nd'.1 (by
    have:p.2.1∈YB.as l:=di (f:=fun p:Str×Addr×V=>p.2.1) hp;rw [z] at this
    exact this)
   rw [lay,Ye hne];exact Ad nd'.2 p hp
def XL (X:Cx) (σ:St) (l:YB):Prop:=l.as.Nodup/\∀ p∈l,∃ i:Nat,X.N[i]?=some p.1/\σ[i]?=some (some p.2.2)/\X.env.kindOf p.1=some .cell/\X.env.cells.lookup p.1=some p.2.1
theorem Qv {X:Cx} {pins:List (Addr×Obj)} {σ:St} {H:Hp} {s:Β} (I:Inv X pins σ H s):∀ {l:YB},XL X σ l->bD X.prog X.w (lay H l) s.heap
 | [],_=>I.hok
 | p::l,h=>by
  have nd':=bg.mp h.1;have ih:=Qv I (l:=l) ⟨nd'.2,fun q hq=>h.2 q (.tail _ hq)⟩;obtain ⟨i,h1,h2,h3,h4⟩:=h.2 p (.head _);obtain ⟨m,hn,hl⟩:=I.loc;obtain ⟨u,r,lk⟩:=hl i p.1 p.2.2 h1 h2 (.inr (.inl h3));rcases lk with ⟨k,_⟩ | ⟨_,c,hc,hcell⟩
  ·rw [h3] at k;cases k
  ·rw [h4] at hc
   cases hc
   refine ih.track ?_ (Uq r hcell);rw [WO nd'.1];exact I.aZ p.1 p.2.1 h4
def PR (X:Cx) (b:List Stmt) (t:(St->V->Hp->Prop)->St->Hp->Prop):Prop:=∀ (pins:List (Addr×Obj)) (s:Β) (σ:St) (H:Hp) (R:St->V->Hp->Prop),Inv X pins σ H s->t R σ H ->
 Μ (Ξ X.prog X.w) X.A (execs b X.env) (fun fl s'=>∃ u,fl = .ret u/\∃ v σ' H',Inv X pins σ' H' s'/\YH v u/\R σ' v H') X.xe s
section
variable {X:Cx} {st:Stmt} {Y2:List Stmt} {t:TS} {u:(St->V->Hp->Prop)->St->Hp->Prop} {e:Expr} {te:TE} {pos:Pos}
def R0 (te:TE):(St->V->Hp->Prop)->St->Hp->Prop:=fun R σ H=>te σ H fun v H'=>R σ v H'
theorem Lj (he:PE X e te):PR X [.Return (some e) pos] (R0 te):=by
 intro pins s σ H R I h;refine gy (wpAny_Return_some (aG (he pins s σ H _ I h) fun v s1 ⟨x,H1,I1,r1,q1⟩=>⟨v,rfl,x,σ,H1,I1,r1,q1⟩))
def R3 (t:TS) (u:(St->V->Hp->Prop)->St->Hp->Prop):(St->V->Hp->Prop)->St->Hp->Prop:=fun R σ H=>t { nx:=u R,rt:=fun _ _=>False } σ H
theorem Lk (h1:PS X st t) (h2:PR X Y2 u):PR X (st::Y2) (R3 t u):=by
 intro pins s σ H R I h;refine gy (aG (h1 pins s σ H _ I h) fun f s1 q=>?_)
 cases f with
 | next =>
  obtain ⟨σ',H',I',q⟩:=q;exact h2 pins s1 σ' H' R I' q
 | ret v=>obtain ⟨_,_,_,_,_,q⟩:=q;exact q.elim
 | brk=>obtain ⟨_,_,_,q⟩:=q;exact q.elim
 | cont=>obtain ⟨_,_,_,q⟩:=q;exact q.elim
end
theorem gU.okC {P:Ρ} {w:Ω} {K:Ι} {mg:Str->Option Α} {base:Heap} {x qual:Str} {st:Stmt} {f:Addr} {fd:ba} {N ps:List Str} {k:Nat} {sp:Sp} (F:gU K x qual st f fd) (S:ak N ps (Yi st)) (len:∀ vs H Q E,sp vs H Q E->vs.length=ps.length)
  (hbody:∀ (cdv:Α) (A:η) (outer:List Env) (s:Β) (H:Hp) (vs:List V) (Q:VK) (E:XK),fd.code=cdv->aO k (A.deeper (jn qual (Yi st) s.heap.objs.size f cdv))->sp vs H Q E ->
   ∃ t,PR (Wo dG P w K mg base N qual (Yi st) f cdv A outer s H E).eZ (YV st) t /\
    t (fun σ v H'=>∃ l,XL (Wo dG P w K mg base N qual (Yi st) f cdv A outer s H E).eZ σ l/\((∀ c∈l.as,H' c=none)->Q v (lay H' l))) (Xw N vs) H):bG P w K mg base dG (k+1) f fd ps sp:=by
 obtain ⟨oc,od,kV,doc,pm,an,cdv,ct,osl,rfl,lk,hcd⟩:=F.ex;refine ⟨len,fun A outer s H args us vs Q E hr e0 hb r hsp=>?_⟩;have hl:=len _ _ _ _ hsp;have KX:K.In s.heap:=e0.mod.jc.keeps fun b o e=>(e0.bs b o e).1
 have lim:s.heap.NoLimit:=e0.mod.nolimit.keeps fun b o e=>(e0.bs b o e).1
 have hkind:∀ y∈ps.zip us,(Yi st).names.lookup y.1=some .local\/((Yi st).names.lookup y.1=some .cell/\((cellsFrom (s.heap.objs.size+1) (Yi st).names []).lookup y.1).isSome=true):=fun ⟨n,v⟩ hy=>by
  rcases S.par n (dy hy).1 with q | q
  ·exact .inl q
  ·exact .inr ⟨q,PySem.W.cellsFrom_some _ _ _ (.inl q)⟩
 refine codeAny_call_function hr.depth (KX _ _ lk) rfl S.co S.gen rfl (PySem.W.codeRec_of KX hcd) (hb _ _ _ _ ?_);refine wpAny_newFunctionEnv_cells S.kind hkind fun env he s1 xx=>?_
 subst he;refine ⟨lim.keeps xx.toInCall.keep,codeAny_func ?_⟩;obtain ⟨t,ht,hq⟩:=hbody cdv A outer s H vs Q E rfl (hr.deeper _) hsp;have I:Inv (Wo dG P w K mg base N qual (Yi st) f cdv A outer s H E).eZ [] (Xw N vs) H s1:=(Qo (CX:=dG) (E:=E) S hr.hd e0 hl r xx).wish _;refine aa (ht [] s1 (Xw N vs) H _ I hq) (fun fl s' hs=>?_) fun e s' hs=>hs.elim
 obtain ⟨u,rfl,v,σ',H',J,rv,l,hc,q⟩:=hs;have un:=J.base;have hab:∀ b∈l.as,s.heap.objs.size<=b:=fun b hb=>by
  obtain ⟨p,hp,rfl⟩:=Xf hb;obtain ⟨i,h1,h2,h3,h4⟩:=hc.2 p hp;exact J.ok.cab p.1 p.2.1 rfl h4
 have hno:∀ b∈l.as,H' b=none:=fun b hb=>by
  obtain ⟨p,hp,rfl⟩:=Xf hb;obtain ⟨i,h1,h2,h3,h4⟩:=hc.2 p hp;exact J.aZ p.1 p.2.1 h4
 have keep:∀ {b:Addr} {o:HO},H' b=some o->lay H' l b=some o:=fun {b o} e=>by
  rw [WO fun hb=>?_]
  ·exact e
  ·rw [hno b hb] at e;cases e
 refine ⟨v,lay H' l,J.os,J.bare,⟨un.keep,un.slot,fun b o e n hx=>?_,un.there,fun b xs e=>keep (un.tups b xs e),fun b o u e=>keep (un.bF b o u e),fun b qs e=>?_⟩,Qv J hc,rv,q hno⟩
 ·rw [WO fun hb=>?_]
  ·exact un.free b o e n hx
  ·have h1:=hab b hb
   have h2:=Φ (show s.heap.get? b=some o from e);exact absurd (χ h2 h1) (dC _)
 ·obtain ⟨more,e'⟩:=un.cJ b qs e
  exact ⟨more,keep e'⟩
def Ln (g:Gx) (k i:Nat) (t:TA):TE:=fun σ H Q=>∃ f fd ps sp,σ[i]?=some (some (.ref f))/\bG g.P g.w g.K g.mg g.base dG k f fd ps sp/\(∀ us:List Α,us.length=ps.length->gi fd ⟨us,[]⟩=pure (ps.zip us))/\H f=some (cY f fd)/\t σ H fun vs H1=>H1 f=some (cY f fd)/\sp vs H1 Q E0
section
variable {X:Cx} {g:Gx} {k j i:Nat} {x:Str} {p pos:Pos} {e:Expr} {es:List Expr} {t:TA}
theorem Qa {pins:List (Addr×Obj)} {σ:St} {H:Hp} {s:Β} {f:Addr} {fd:ba} (I:Inv X pins σ H s) (h:H f=some (cY f fd)):W.FnAt f s.heap:=⟨_,_,_,_,(I.hok _ _ h).1⟩
theorem Vy (i:Nat) (hr:aO k X.A) (ha:PA X (e::es) t) (hj:j<=k) (hX:X.gx=g) (hN:X.N[i]?=some x) (hv:qX X.env.scope x) (hdb:(x==("__debug__":Str))=false)
  (hcd:(x==("__classdict__":Str))=false) (he:Τ (e::es) X.env=(false,eval e X.env)::Τ es X.env) (hpl:(be pos (Τ es X.env)).any (·.1)=false):PE X (.Call (.Name x p) (e::es) [] pos) (Ln g j i t):=by
 subst hX;intro pins s σ H Q I h;obtain ⟨f,fd,ps,sp,hσ,F,b,hf,ht⟩:=h;refine bz (aG (QU hN hv hdb hcd pins s σ H (fun v H1=>v = .ref f/\H1 f=some (cY f fd)/\t σ H1 fun vs H1=>H1 f=some (cY f fd)/\sp vs H1 Q E0) I (Uv hσ ⟨rfl,hf,ht⟩)) fun u s1 ⟨v,H1,I1,r,e,hf1,ht⟩=>?_);subst e;obtain rfl:u=ζ f:=r;refine PySem.W.callWith_F (Qa I1 hf1) (aG (ha pos pins s1 σ H1 _ I1 ht) fun us s2 ⟨vs,H2,I2,r2,hf2,q⟩=>⟨Qa I2 hf2,?_⟩) he hpl;exact Vg F (hr.mono hj) (.all b) .nil W3 I2 r2 (by rw [bi];exact q)
theorem Qw (i:Nat) (hr:aO k X.A) (hj:j<=k) (hX:X.gx=g) (hN:X.N[i]?=some x) (hv:qX X.env.scope x) (hdb:(x==("__debug__":Str))=false)
  (hcd:(x==("__classdict__":Str))=false):PE X (.Call (.Name x p) [] [] pos) (Ln g j i Q1):=by
 subst hX;intro pins s σ H Q I h;obtain ⟨f,fd,ps,sp,hσ,F,b,hf,ht⟩:=h;have ht:H f=some (cY f fd)/\sp [] H Q E0:=ht;refine bz (aG (QU hN hv hdb hcd pins s σ H (fun v H1=>v = .ref f/\H1 f=some (cY f fd)/\sp [] H1 Q E0) I (Uv hσ ⟨rfl,hf,ht.2⟩)) fun u s1 ⟨v,H1,I1,r,e,hf1,ht⟩=>?_);subst e;obtain rfl:u=ζ f:=r;refine PySem.W.callWith_F0 (Qa I1 hf1) ?_;exact Vg F (hr.mono hj) (.all b) .nil W3 I1 .nil (by rw [bi];exact ht)
end
abbrev Ae:=List (Str×Addr×Addr)
theorem Yc8 {P:Ρ} {w:Ω} {K:Ι} {mg mb:Str->Option Α} {CX:gk} {k:Nat} {fa a:Addr} {fd:ba} {x:Str} {sp:Sp} {s₁:Β} {vs:List Α} {ns:List Int} (tabs:Ae)
  (KX:K.In s₁.heap) (hns:s₁.heap.Ns aw mg) (hb:s₁.heap.Ns iF mb) (hbb:∀ x:Str,x≠"__name__"->mb x=d6 x) (hlim:s₁.heap.NoLimit) (hg:s₁.gens=#[])
  (ha:s₁.heap.get? a=some { cls := .type "list",data := .seq vs.toArray }) (hi:IntsAre vs ns) (hl:ns.length<=sizeLine) (hr:aO k callerA)
  (hT:∀ q∈tabs,gt s₁.heap q.2.1 q.2.2/\s₁.heap.get? q.2.2=some (ge #[])) (hK:∀ q∈tabs,K.lookup q.2.2=none)
  (bmn:∃ bm ob,mg "__builtins__"=some (.ref bm)/\bm≠iF/\s₁.heap.get? bm=some ob/\ob.cls = .type "module"/\ob.dict=some iF/\ob.data = .plain)
  (F:∀ base:Heap,K.In base->base.Ns aw mg->Bm mg base->(∀ q∈tabs,gt base q.2.1 q.2.2)->bG P w K mg base CX k fa fd [x] sp) (hbind:∀ (s:Β) (u:Α),BindsTo s fd ⟨[u],[]⟩ [(x,u)])
  (hsp:∀ H:Hp,(∀ q∈tabs,H q.2.2=some (.aU #[]))->aA K H a (ns.map V.int)->sp [.ref a] H (fun v _=>v = .bl true) fun _ _ _=>False)
  (hCX:∀ H e s',CX [] H s₁ (fun _ _ _=>False) e s'->False) :
  ei (Ξ P w) callerA (.call (.ref fa) ⟨[.ref a],[]⟩) (fun r s'=>r = .ok (.ret (.bool true))/\OldK s₁.heap s'.heap/\s'.os=s₁.os/\hV s'.gens) s₁:=by
 have rv:=Qq hi;have lenV:=hi.length;have tobj:∀ b∈tabs.map (·.2.2),s₁.heap.get? b=some (ge #[]):=fun b hb=>by
  obtain ⟨q,hq,rfl⟩:=ae.mp hb;exact (hT q hq).2
 have aT:a∉tabs.map (·.2.2):=fun hb=>by
  have:=tobj a hb;rw [ha] at this
  cases this
 have core:∀ H:Hp,(∀ b,H b=none\/(∃ o xs,H b=some (.cM o (.lst xs)))\/(b∈tabs.map (·.2.2)/\H b=some (.aU #[])))->aA K H a (ns.map V.int)->bD P w H s₁.heap->(∀ b,H b≠none->b=a\/b∈tabs.map (·.2.2))->(H a≠none->K.lookup a=none)->(∀ q∈tabs,H q.2.2=some (.aU #[])) ->
   ei (Ξ P w) callerA (.call (.ref fa) ⟨[.ref a],[]⟩) (fun r s'=>r = .ok (.ret (.bool true))/\OldK s₁.heap s'.heap/\s'.os=s₁.os/\hV s'.gens) s₁:=by
  intro H hO hS hok hA hKa hTb;have jx:∀ {b:Addr} {o:Obj},s₁.heap.get? b=some o->H b=none->(WP s₁.heap H).get? b=some o:=fun e n=>Tv e n
  have Lp:∀ {b:Addr} {o:Obj},s₁.heap.get? b=some o->o.cls ≠ .type "list"->o≠ge #[]->H b=none:=fun {b o} e d1 d2=>by
   cases q:H b with
   | none=>rfl
   | some u =>
    rcases hA b (by rw [q];simp) with e' | e'
    ·subst e'
     rw [ha] at e;cases e
     exact absurd rfl d1
    ·rw [tobj b e'] at e
     exact absurd (Ε e).symm d2
  have jP:∀ {b:Addr} {o:Obj} {es:Array DictEntry} {ep:Nat},s₁.heap.get? b=some o->o.data = .dict es ep->H b=none:=fun {b o es ep} e d=>by
   cases q:H b with
   | none=>rfl
   | some u =>
    rcases hA b (by rw [q];simp) with e' | e'
    ·subst e'
     rw [ha] at e;cases e
     have d':Data.seq vs.toArray _=Data.dict es ep:=d
     cases d'
    ·rw [tobj b e'] at e
     cases e
     have d':lh #[]=Data.dict es ep:=d
     cases d'
  have vK:∀ {b:Addr} {m:Str->Option Α},s₁.heap.Ns b m->(WP s₁.heap H).Ns b m:=fun {b m} ⟨o,es,ep,e,d,r⟩=>⟨o,es,ep,jx e (jP e d),d,r⟩
  have Lq:K.In (WP s₁.heap H):=fun b o e=>jx (KX b o e) (by
   cases q:H b with
   | none=>rfl
   | some u =>
    rcases hA b (by rw [q];simp) with e' | e'
    ·subst e'
     rw [hKa (by rw [q];simp)] at e;cases e
    ·obtain ⟨z,hz,rfl⟩:=ae.mp e'
     rw [hK z hz] at e;cases e)
  have hM:Mod K mg (WP s₁.heap H):=⟨Lq,vK hns,⟨mb,vK hb,hbb⟩,let ⟨mc,h1,h2⟩:=hlim;⟨mc,vK h1,h2⟩⟩;have e0:fQ P w K mg (WP s₁.heap H) callerA [] s₁ H:=⟨rfl,hM,fun b o e=>Tw e,Nat.le_of_eq (Tt _ _),trivial,fun b hb=>absurd (show b∈([]:List Addr) from hb) (by simp),hok,.of_eq hg⟩;have hBm:Bm mg (WP s₁.heap H):=by
   obtain ⟨bm,ob,b1,b2,b3,b4,b5,b6⟩:=bmn;refine ⟨bm,ob,b1,b2,fun z=>?_,jx b3 (Lp b3 (by rw [b4];decide) fun z=>by rw [z] at b4;cases b4),b4,b5,b6⟩;obtain ⟨o,es,ep,e,d,_⟩:=hns;rw [z,e] at b3;cases b3
   rw [d] at b6;cases b6
  have hCd:∀ q∈tabs,gt (WP s₁.heap H) q.2.1 q.2.2:=fun q hq=>by
   obtain ⟨o,vs',file,tf,flags,tg,inF,text,tt,e1,e2,r⟩:=(hT q hq).1;exact ⟨o,vs',file,tf,flags,tg,inF,text,tt,jx e1 (Lp e1 (by rw [e2];decide) fun z=>by rw [z] at e2;cases e2),e2,r⟩
  refine fF ((F _ Lq (vK hns) hBm hCd).run callerA [] s₁ H ⟨[.ref a],[]⟩ [.ref a] [.ref a] _ _ hr e0 (hbind s₁ (.ref a)) (.cons rfl .nil) (hsp H hTb hS)) fun r s' h=>?_
  cases r with
  | error e=>exact (hCX H e s' h).elim
  | ok fl =>
   cases fl with
   | next=>exact az h
   | brk=>exact az h
   | cont=>exact az h
   | ret u =>
    obtain ⟨v,H',os,bare,un,hok',r',q⟩:=h;have q':v = .bl true:=q;subst q';obtain rfl:u=lj true:=r';have each:∀ b o,s₁.heap.get? b=some o->s'.heap.get? b=some o\/((∃ z∈tabs,z.2.2=b)/\o=ge #[]/\∃ ps,s'.heap.get? b=some (ge ps)):=fun b o e=>by
     rcases hO b with q | ⟨ob,xs,z⟩ | ⟨z1,z2⟩
     ·exact .inl (un.keep b o e q (by intro z;exact absurd (show b∈([]:List Addr) from z) (by simp)) (by simp))
     ·have z2:=un.bF b ob _ z
      obtain ⟨e1,_⟩:=hok b _ z;obtain ⟨e2,_⟩:=hok' b _ z2;rw [e] at e1;cases e1
      exact .inl e2
     ·obtain ⟨q,hq,e3⟩:=ae.mp z1
      obtain ⟨more,e4⟩:=un.cJ b _ z2;have e5:s'.heap.get? b=some (ge (#[]++more)):=hok' b _ e4;rw [tobj b z1] at e
      exact .inr ⟨⟨q,hq,e3⟩,(Ε e).symm,_,e5⟩
    refine ⟨rfl,⟨fun b o e=>?_,fun b o e=>?_⟩,os,bare⟩
    ·rcases each b o e with h | ⟨⟨z,hz,rfl⟩,rfl,ps,h⟩
     ·exact .inl h
     ·exact .inr (.inl ⟨((hT z hz).1.tab (hT z hz).2).isCodeTable,rfl,#[],ps,rfl,by rw [Array.empty_append];exact h⟩)
    ·rcases each b o e with h | ⟨_,_,ps,h⟩
     ·exact ⟨o,h⟩
     ·exact ⟨_,h⟩
 have Af:∀ q∈tabs,q.2.2∈tabs.map (·.2.2):=fun q hq=>di hq
 have Ag:∀ {H:Hp} {b:Addr},b∈tabs.map (·.2.2)->YO P w H s₁.heap b (.aU #[]):=fun hb=>tobj _ hb
 cases hk:K.lookup a with
 | some o =>
  have e:=KX a o hk;rw [ha] at e
  cases e
  refine core (fun b=>if b∈tabs.map (·.2.2) then some (.aU #[]) else none) (fun b=>?_) (.inr ⟨_,vs.toArray,_,hk,rfl,rfl,rfl,by rw [ς,lenV];exact hl,by simpa using rv⟩) (fun b u z=>?_) (fun b z=>?_) (fun z=>absurd (if_neg aT) z) fun q hq=>if_pos (Af q hq)
  ·by_cases hb:b∈tabs.map (·.2.2)
   ·exact .inr (.inr ⟨hb,if_pos hb⟩)
   ·exact .inl (if_neg hb)
  ·by_cases hb:b∈tabs.map (·.2.2)
   ·have z':=(if_pos hb).symm.trans z
    cases z'
    exact Ag hb
   ·have z':=(if_neg hb).symm.trans z
    cases z'
  ·by_cases hb:b∈tabs.map (·.2.2)
   ·exact .inr hb
   ·exact absurd (if_neg hb) z
 | none =>
  refine core (fun b=>if b∈tabs.map (·.2.2) then some (.aU #[]) else if b=a then some (.cM { cls := .type "list",data := .seq vs.toArray } (.lst (ns.map V.int))) else none) (fun b=>?_) (.inl (.inr ⟨{ cls := .type "list",data := .seq vs.toArray },(if_neg aT).trans (if_pos rfl)⟩)) (fun b u z=>?_) (fun b z=>?_) (fun _=>hk) fun q hq=>if_pos (Af q hq)
  ·by_cases hb:b∈tabs.map (·.2.2)
   ·exact .inr (.inr ⟨hb,if_pos hb⟩)
   ·by_cases hb2:b=a
    ·exact .inr (.inl ⟨_,_,(if_neg hb).trans (if_pos hb2)⟩)
    ·exact .inl ((if_neg hb).trans (if_neg hb2))
  ·by_cases hb:b∈tabs.map (·.2.2)
   ·have z':=(if_pos hb).symm.trans z
    cases z'
    exact Ag hb
   ·have z1:=(if_neg hb).symm.trans z
    by_cases hb2:b=a
    ·have z':=(if_pos hb2).symm.trans z1
     cases z'
     subst hb2;exact ⟨ha,by rw [Θ];exact hl,vs,_,rv,ha⟩
    ·have z':=(if_neg hb2).symm.trans z1
     cases z'
  ·by_cases hb:b∈tabs.map (·.2.2)
   ·exact .inr hb
   ·by_cases hb2:b=a
    ·exact .inl hb2
    ·exact absurd ((if_neg hb).trans (if_neg hb2)) z
def V6 (K:Ι) (tabs:Ae):Sp:=fun vs H Q _=>∃ (a:Addr) (ns:List Int),vs=[.ref a]/\aA K H a (ns.map V.int)/\ns.length<=63/\(∀ q∈tabs,H q.2.2=some (.aU #[]))/\∀ H',Q (.bl true) H'
theorem Yd2 {l:PySem.W.OpenLaw} {q:Ρ} {loose:List Str} {XP:(Str->Option Α)->Heap->Prop} {YP:Ω->Heap->Prop} {d:DefRec} {K:Params->Ι} (tabs:Ae) (k:Nat) (x:Str) (st:Stmt) (N:List Str) (hn:l.most=some 63) (hdf:d.params.defaults=[]) (hk:aO (k+1) callerA) (S:ak N [x] (Yi st))
  (hY:∀ (w:Ω) (h:Heap),YP w h->(K w.params).In h)
  (hrec:∀ p∈tabs,∃ d',(recsOf q).find? (fun e=>e.name==p.1)=some d')
  (htab:∀ (w:Ω),∀ p∈tabs,PySem.W.tabIn (K w.params) p.1=some p.2)
  (hno:∀ (w:Ω),∀ p∈tabs,(K w.params).lookup p.2.2=none)
  (F:∀ (w:Ω) (mg:Str->Option Α) (h:Heap),(K w.params).In h->h.Ns aw mg->Kg (K w.params) mg st x d.name/\∀ base,Bm mg base->(∀ p∈tabs,gt base p.2.1 p.2.2)->VR (Gx.mk l.prog w (K w.params) mg base) k N d.name st (V6 (K w.params) tabs)) :
  PySem.W.WalkO q loose XP YP l.row.toRowW d [] (fun f vs=>PySem.call f vs):=by
 refine J4.oN hn hdf fun w s₀ s₁ mg mb fa o pm cd doc a vs ns G Y ho hd hcd hmg hobj hints hlen hg=>?_
 have KX:=hY w _ Y;obtain ⟨⟨f,fd,Fu,hb,hm⟩,B⟩:=F w mg _ KX G.T.g;have e:=hmg.symm.trans hm
 cases e
 refine Yc8 (CX:=dG) (sp:=V6 (K w.params) tabs) tabs KX G.T.g G.T.b G.T.builtins G.T.nolimit hg hobj hints (ap hlen (by decide)) hk (fun p hp=>?_) (hno w) G.T.bmain
  (fun base _ _ hB hC=>Fu.ok S (fun vs H Q E h=>by obtain ⟨a,ns,rfl,_⟩:=h;rfl) fun cdv A outer s H vs Q E hr h=>B base hB hC fa cdv A outer s H vs Q E hr h) hb (fun H hT hS=>⟨a,ns,rfl,hS,hlen,hT,fun _=>rfl⟩) fun H e s' z=>z
 obtain ⟨d',hd'⟩:=hrec p hp;exact PySem.W.tab_of G.T KX hd' (htab w p hp)
def QP (s:Stmt) (j:Nat):Stmt:=(YV s).getD j (.Pass ⟨0,0,0,0⟩)
def Gx.gn (g:Gx) (x qual:Str) (st:Stmt) (ps:List Str) (c:Addr):Prop:=∃ f fd,gU g.K x qual st f fd/\Xh g.K fd ps []/\g.mg x=some (.ref f)/\fd.code = .ref c
theorem Gx.gn.Lr {g:Gx} {k:Nat} {x qual:Str} {st:Stmt} {N ps:List Str} {c:Addr} {sp:Sp} (R:g.gn x qual st ps c) (S:ak N ps (Yi st)) (len:∀ vs H Q E,sp vs H Q E->vs.length=ps.length)
  (b:∀ (f:Addr) (A:η) (outer:List Env) (s:Β) (H:Hp) (vs:List V) (Q:VK) (E:XK),aO k (g.cx N qual st f (.ref c) A outer s H E).A->sp vs H Q E ->
   ∃ t,PR (g.cx N qual st f (.ref c) A outer s H E) (YV st) t/\t (fun σ v H'=>∃ l,XL (g.cx N qual st f (.ref c) A outer s H E) σ l/\((∀ c∈l.as,H' c=none)->Q v (lay H' l))) (Xw N vs) H):g.Fn (k+1) x ps sp:=by
 obtain ⟨f,fd,F,bd,hm,hc⟩:=R;refine ⟨f,fd,F.okC S len fun cdv A outer s H vs Q E e hr h=>?_,bd,F.kp,hm⟩;have e':cdv = .ref c:=e.symm.trans hc;subst e';exact b f A outer s H vs Q E hr h
theorem Qb {K:Ι} {h:Heap} {mg:Str->Option Α} {f:Addr} {x:Str} {st:Stmt} {c:Addr} {oc kV dc pm cd ct:Α} {od an:Option Addr} {sl:Array (Option Α)} (X:K.In h) (G:h.Ns aw mg) (ps:List Str)
  (a:js K aw x=some (some (.ref f))) (l:K.lookup f=some ⟨oc,od,.func (cr x x (Y9 st) (YV st) (Yi st) .none kV dc pm an cd ct),sl⟩) (cc:gf K cd x=true) (k:dP K (.ref f)=true) (e:cd = .ref c)
  (b:∀ (kV doc pm:Α) (an:Option Addr) (cdv ct:Α) (us:List Α),us.length=ps.length->gi (cr x x (Y9 st) (YV st) (Yi st) .none kV doc pm an cdv ct) ⟨us,[]⟩=pure (ps.zip us)) :
  ∀ P w base,(Gx.mk P w K mg base).gn x x st ps c:=fun P w base =>
 have F:=WR (st:=st) l cc k
 ⟨f,_,F,F.binds b,gV X G a,e⟩
end L2
namespace HT
open PySem PySem.Spec PyProof.Rows
variable {prog:Ρ} {w:Ω} {A:η} {E:Α->Β->Prop} {s:Β}
end HT
namespace L2
open PySem PySem.Spec PyProof.Rows
def R4 (s:Stmt):Expr:=match s with
 | .Return (some e) _=>e
 | _ => .Constant .none 0 ⟨0,0,0,0⟩
def Lw (e:Expr):Arguments:=match e with
 | .Lambda a _ _ _=>a
 | _=>{ posonlyargs:=[],args:=[],vararg:=none,kwonlyargs:=[],kw_defaults:=[],kwarg:=none,defaults:=[] }
def Lx (e:Expr):Expr:=match e with
 | .Lambda _ b _ _=>b
 | e=>e
def Vz (e:Expr):Scope:=match e with
 | .Lambda _ _ sc _=>sc
 | _=>{ kind := .function,names:=[],isGenerator:=false,isCoroutine:=false }
theorem Yf8 {P:Ρ} {w:Ω} {K:Ι} {mg:Str->Option Α} {base:Heap} {k:Nat} {f c:Addr} {qual:Str} {params:jb} {body:Expr} {scope:da} {pm ctv:Α} {N ps:List Str} {l:YB} {sp:List V->Hp->VK->Prop}
  (S:dU N ps (l.map (·.1)) scope) (hnd:l.as.Nodup) (len:∀ vs H Q,sp vs H Q->vs.length=ps.length)
  (hbody:∀ (A:η) (outer:List Env) (s:Β) (H:Hp) (vs:List V) (Q:VK),aO k (A.deeper (W.envX qual scope s.heap.objs.size f (.ref c) l.cl))->sp vs H Q ->
   ∃ t,PE (VW P w K mg base N qual scope f (.ref c) l.cl A outer s H) body t/\t (WV N vs l.vs) H Q) :
  bG P w K mg base dG (k+1) f (j3 "<lambda>" qual params body scope l.cl pm (.ref c) ctv) ps
   (fun vs H Q _=>Vc H f c (j3 "<lambda>" qual params body scope l.cl pm (.ref c) ctv) qual l/\sp vs (off H l.as) fun v H'=>(∀ c∈l.as,H' c=none)->Q v (on H' H l.as)):=by
 refine ⟨fun vs H Q E h=>len _ _ _ h.2,fun A outer s H args us vs Q E hr e0 hb r hsp=>?_⟩;obtain ⟨⟨hf,hc,hin⟩,hsp⟩:=hsp;have hl:=len _ _ _ hsp;have lim:s.heap.NoLimit:=e0.mod.nolimit.keeps fun b o e=>(e0.bs b o e).1
 have hfo:=(e0.hok _ _ hf).1;have hco:s.heap.CodeRec (.ref c) qual:=(e0.hok _ _ hc).1;refine W.kla_callFunE hr.depth hfo rfl S.co S.gen rfl hco (hb _ _ _ _ ?_);refine gN S.jT (fun y hy=>S.par y.1 (dy hy).1) (fun h₁ hns hsb=>?_) S.kind;have hk₁:∀ b o,s.heap.get? b=some o->h₁.get? b=some o:=fun b o e=>hsb.extBut b o (ρ (Φ e)) (Ζ _ e)
 refine ⟨lim.keeps hk₁,W.kla_codeExpr ?_⟩;obtain ⟨t,ht,hq⟩:=hbody A outer s (off H l.as) vs _ (hr.deeper _) hsp;have I:=UM (cd := .ref c) (qual:=qual) (f:=f) (tk:=s.toks+(ps.zip us).length) S hnd hr.hd e0 hl r hin hns hk₁;have lk:=VV (l:=l) (by rw [<- S.suf];exact S.nd.sublist (iP _ _));refine aa (ht [] _ _ _ _ I hq) (fun u s' hs=>?_) fun e s' hs=>hs.elim
 obtain ⟨v,H',J,rv,q⟩:=hs;exact Ab e0 hin J lk rv q
section
variable {src:List (Option Nat)} {te:TE} {σ:St} {H:Hp} {Q:VK}
theorem Yc9 {K:Ι} {tl:TE} {xs:List V} {b:Addr} (I:Addr->Nat->List V->Hp->Prop) (ha:∀ R:V->Hp->Prop,R (.ref b) H->tl σ H R) (hS:aA K H b xs) (hlen:xs.length<=100000)
  (i0:∀ D,H D=none->I D 0 [] (upd H D (.lst []))) (dl:∀ D i zs H',H D=none->I D i zs H'->zs.length=i/\H' D=some (.lst zs)/\aA K H' b xs)
  (step:∀ D (i:Nat) x zs H',H D=none->xs[i]?=some x->I D i zs H'->∀ R:VK,(∀ y aJ,aJ D=some (.lst zs)->I D (i+1) (zs++[y]) (upd aJ D (.lst (zs++[y])))->R y aJ)->te (some x::YJ src σ) H' R)
  (fin:∀ D zs H',H D=none->I D xs.length zs H'->Q (.ref D) H'):je (none::src) (Wf K tl) (YW 0) Wj te σ H Q:=by
 refine ha _ ⟨b,rfl,⟨xs,hS⟩,fun D hD=>?_⟩;have h6:100000<sizeLine:=by decide
 refine UG XV (fun i zs σ' H'=>(∃ o,σ'=o::YJ src σ)/\i<=xs.length/\I D i zs H') ⟨⟨none,rfl⟩,ar _,i0 D hD⟩ (fun i zs σ' H' q=>⟨(dl _ _ _ _ hD q.2.2).2.2,(dl _ _ _ _ hD q.2.2).2.1⟩) (Wk 0) ?_ ?_
 ·rintro i zs σ' H' x hx ⟨⟨o,rfl⟩,_,hI⟩
  have hi:i<xs.length:=(Η.mp hx).1;have hl:=(dl _ _ _ _ hD hI).1
  show te (some x::YJ src σ) H' _
  exact step D i x zs H' hD hx hI _ fun y aJ hd hI'=>⟨hd,by omega,⟨_,rfl⟩,hi,hI'⟩
 ·rintro zs σ' H' ⟨_,_,hI⟩
  exact fin D zs H' hD hI
end
mutual
inductive RK (h:Heap):Α->ξ->Prop
 | int (i:Int) (t:Tok):RK h (.int i t) (.int i)
 | str (x:Str) (t:Tok) (hx:ce x=true):RK h (.str x t) (.str x)
 | tup {a:Addr} {o:Obj} {vs:Array Α} {n:Nat} {ds:List ξ}:h.get? a=some o->o.cls = .type "tuple"->o.data = .seq vs n->fH h vs.toList ds->RK h (.ref a) (.tuple ds)
inductive fH (h:Heap):List Α->List ξ->Prop
 | nil:fH h [] []
 | cons {v:Α} {d:ξ} {vs:List Α} {ds:List ξ}:RK h v d->fH h vs ds->fH h (v::vs) (d::ds)
end
mutual
inductive KO:ξ->Prop
 | int (i:Int):KO (.int i)
 | str (x:Str):KO (.str x)
 | tup {ds:List ξ}:jF ds->KO (.tuple ds)
inductive jF:List ξ->Prop
 | nil:jF []
 | cons {d:ξ} {ds:List ξ}:KO d->jF ds->jF (d::ds)
end
mutual
theorem RK.ko {h:Heap}:∀ {v:Α} {d:ξ},RK h v d->KO d
 | _,_,.int i t => .int i
 | _,_,.str x t _ => .str x
 | _,_,.tup _ _ _ hs => .tup hs.ko
theorem fH.ko {h:Heap}:∀ {vs:List Α} {ds:List ξ},fH h vs ds->jF ds
 | _,_,.nil => .nil
 | _,_,.cons a b => .cons a.ko b.ko
end
mutual
theorem RK.reads {h:Heap}:∀ {v:Α} {d:ξ},RK h v d->(∃ as,Reads h v d as)/\d.canLay0=true
 | _,_,.int i t=>⟨⟨_,.int i t⟩,rfl⟩
 | _,_,.str x t hx=>⟨⟨_,.str x t⟩,by simpa [eI] using hx⟩
 | _,_,.tup h1 h2 h3 hs=>by
  obtain ⟨⟨as,r⟩,l⟩:=hs.reads;exact ⟨⟨_,.tuple h1 h2 h3 r⟩,by rw [eI];exact l⟩
theorem fH.reads {h:Heap}:∀ {vs:List Α} {ds:List ξ},fH h vs ds->(∃ as,ReadsAll h vs ds as)/\ez ds=true
 | _,_,.nil=>⟨⟨_,.nil⟩,rfl⟩
 | _,_,.cons a b=>by
  obtain ⟨⟨as,r⟩,l⟩:=a.reads;obtain ⟨⟨bs,r'⟩,l'⟩:=b.reads;exact ⟨⟨_,.cons r r'⟩,by rw [ez,l,l'];rfl⟩
end
theorem RK.of {h:Heap} {d:ξ} {v:Α} {as:List Addr} (k:KO d) (r:Reads h v d as) (l:d.canLay0=true):RK h v d:=by
 induction k using KO.rec (motive_2:=fun ds _=>∀ {vs:List Α} {as:List Addr},ReadsAll h vs ds as->ez ds=true->fH h vs ds) generalizing v as with
 | int i=>cases r with | int _ t=>exact .int i t
 | str x=>cases r with | str _ t=>exact .str x t (by simpa [eI] using l)
 | tup _ ih=>cases r with | tuple h1 h2 h3 hs=>exact .tup h1 h2 h3 (ih hs (by rw [eI] at l;exact l))
 | nil=>rename_i r l;cases r;exact .nil
 | cons _ _ ih ihs =>
  rename_i r l;rw [ez,c6] at l
  cases r with | cons r rs=>exact .cons (ih r l.1) (ihs rs l.2)
theorem RK.inj {h:Heap} {d:ξ} {v:Α} {e:ξ} (a:RK h v d) (b:RK h v e):d=e:=by
 obtain ⟨⟨_,r⟩,l⟩:=a.reads;obtain ⟨⟨_,r'⟩,_⟩:=b.reads;exact (r.unique _ _ r').1
mutual
theorem RK.keeps {h h':Heap} {x:Addr} {o:Obj} {es:Array DictEntry} {ep:Nat} (ho:h.get? x=some o) (hd:o.data = .dict es ep) (hs:cy x h h'):∀ {v:Α} {d:ξ},RK h v d->RK h' v d
 | _,_,.int i t => .int i t
 | _,_,.str y t hy => .str y t hy
 | _,_,.tup (a:=a) h1 h2 h3 ks=>by
  have hne:a≠x:=by
   rintro rfl;rw [ho] at h1
   cases h1
   rw [hd] at h3
   exact nomatch h3
  exact .tup ((hs.2 a hne).trans h1) h2 h3 (fH.keeps ho hd hs ks)
theorem fH.keeps {h h':Heap} {x:Addr} {o:Obj} {es:Array DictEntry} {ep:Nat} (ho:h.get? x=some o) (hd:o.data = .dict es ep) (hs:cy x h h'):∀ {vs:List Α} {ds:List ξ},fH h vs ds->fH h' vs ds
 | _,_,.nil => .nil
 | _,_,.cons a b => .cons (RK.keeps ho hd hs a) (fH.keeps ho hd hs b)
end
noncomputable instance ahU:DecidableEq PyData:=fun a b=>Classical.propDecidable (a=b)
mutual
theorem KO.eqv:∀ {d e:ξ},KO d->KO e->d.eqv e=decide (d=e)
 | .int a,.int b,_,_=>by
  by_cases h:a=b
  ·subst h;simp [a8]
  ·simp [a8,h]
 | .str a,.str b,_,_=>by
  by_cases h:a=b
  ·subst h;simp [a8]
  ·simp [a8,h]
 | .int a,.str b,_,_=>by simp [a8]
 | .str a,.int b,_,_=>by simp [a8]
 | .int a,.tuple b,_,_=>by simp [a8]
 | .str a,.tuple b,_,_=>by simp [a8]
 | .tuple a,.int b,_,_=>by simp [a8]
 | .tuple a,.str b,_,_=>by simp [a8]
 | .tuple a,.tuple b,.tup x,.tup y=>by
  rw [a8,jF.eqv x y];by_cases h:a=b
  ·subst h;simp
  ·simp [h]
theorem jF.eqv:∀ {ds es:List ξ},jF ds->jF es->cz ds es=decide (ds=es)
 | [],[],_,_=>by simp [cz]
 | [],_::_,_,_=>by simp [cz]
 | _::_,[],_,_=>by simp [cz]
 | d::ds,e::es,.cons x xs,.cons y ys=>by
  rw [cz,KO.eqv x y,jF.eqv xs ys];by_cases h:d=e
  ·subst h
   by_cases h2:ds=es
   ·subst h2;simp
   ·simp [h2]
  ·simp [h]
end
section
variable {P:Ρ} {w:Ω}
mutual
def kh (P:Ρ) (w:Ω):ξ->Int
 | .int i=>(XD P w).hash (.inl i)
 | .str x=>(XD P w).hash (.inr x)
 | .tuple ds=>reduceHash (c4 (gq P w ds))
 | _=>0
def gq (P:Ρ) (w:Ω):List ξ->List Int
 | []=>[]
 | d::ds=>kh P w d::gq P w ds
end
mutual
def kdr:ξ->Nat
 | .int _=>1
 | .str _=>1
 | .tuple ds=>Wv ds+1
 | _=>0
def Wv:List ξ->Nat
 | []=>0
 | d::ds=>kdr d+Wv ds
end
theorem Yfx (a b:List ξ):gq P w (a++b)=gq P w a++gq P w b:=by
 induction a with
 | nil=>simp [gq]
 | cons x a ih=>simp [gq,ih]
theorem Yd3 (a b:List ξ):Wv (a++b)=Wv a+Wv b:=by
 induction a with
 | nil=>simp [Wv]
 | cons x a ih=>simp [Wv,ih,kF]
theorem Yd4 (a b:List ξ):aE (a++b)=max (aE a) (aE b):=by
 induction a with
 | nil=>simp [aE]
 | cons x a ih=>simp [aE,ih,Nat.max_assoc]
theorem UN {s:Β} {a:Addr} {o:Obj} (h1:s.heap.get? a=some o) (h2:o.cls = .type "tuple"):s.TypeIs (.ref a) "tuple":=⟨o,h1,h2⟩
theorem Ly:∀ (n:Nat) {A:η} {E:Α->Β->Prop} {s:Β} {v:Α} {d:ξ} {Q:Int->Β->Prop},RK s.heap v d->d.depth<=n->A.units+n<fw->Q (kh P w d) { s with toks:=s.toks+kdr d }->Μ (Ξ P w) A (pyHash v) Q E s
 | n,A,E,s,_,_,Q,.int i t,_,_,h=>(XD P w).pyHash (J5 (k := .inl i) (show YH (.int i) (.int i t) from ⟨t,rfl⟩)) (by simpa [kh,kdr] using h)
 | n,A,E,s,_,_,Q,.str x t _,_,_,h=>(XD P w).pyHash (J5 (k := .inr x) (show YH (.str x) (.str x t) from ⟨t,rfl⟩)) (by simpa [kh,kdr] using h)
 | 0,A,E,s,_,_,Q,.tup _ _ _ _,hd,_,h=>by simp [cw] at hd
 | n+1,A,E,s,_,_,Q,.tup (a:=a) (ds:=ds) h1 h2 h3 ks,hd,hu,h=>by
  have hT:=UN h1 h2;unfold pyHash
  first | unfold pyHashByItsType | skip
  first | refine Δ (wpAny_cRoomFor_or (.inr (by omega)) ?_) | skip
  refine Δ (fg hT F.slot_tuple_hash.lookup ?_)
  show Μ _ _ (if (some (c9 "tuple.__hash__")==some ck)=true then _ else _) Q E s
  rw [if_neg (by rw [beq_builtin_none];exact θ)];refine Δ (fg hT F.slot_tuple_hash.lookup ?_);refine Δ (wpAny_callSpecialIfBoundUnlessNone?_slot hT F.slot_tuple_hash (eL F.slot_tuple_hash hT F.entry_tuple_hash ?_ (F.args_tuple_hash_1 _)))
  show Μ _ _ (Builtin.Tuple.tupleItemsOf (.ref a) >>= _) _ _ s
  refine Δ (wpAny_tupleItemsOf h1 h3 ?_);refine Δ ?_;rw [<- Array.forIn_toList];have hdd:aE ds<=n:=by simp only [cw] at hd;omega
  refine wpAny_forIn_list _ (fun Y2 (b:Array Int) s'=>∃ done left,ds=done++left/\fH s.heap Y2 left/\b.toList=gq P w done/\s'={ s with toks:=s.toks+Wv done }) _ ?_ ?_ _ _ ⟨[],ds,rfl,ks,by simp [gq],by simp [Wv]⟩
  ·rintro x Y2 b s' ⟨done,left,e,hl,hb,rfl⟩
   cases hl with
   | @cons _ d _ ds' hk hl' =>
    have hdk:d.depth<=n:=by
     rw [e,Yd4] at hdd
     simp only [aE] at hdd;omega
    have hin:A.in1.units+n<cLine:=by
     have:A.in1.units=A.units+1:=rfl;omega
    refine Δ (Ly n (s:={ s with toks:=s.toks+Wv done }) hk hdk hin ?_);have fin:∃ ql left',ds=ql++left'/\fH s.heap Y2 left'/\(b.push (kh P w d)).toList=gq P w ql/\({ s with toks:=s.toks+Wv done+kdr d }:Β)={ s with toks:=s.toks+Wv ql } :=
     ⟨done++[d],ds',by rw [e];simp,hl',by rw [Yfx,Array.toList_push,hb];simp [gq],by rw [Yd3];simp [Wv,kF]⟩
    first
     | exact Ο fin
     | exact Δ (Ο (Ο fin))
  ·rintro b s' ⟨done,left,e,hl,hb,rfl⟩
   cases hl
   rw [bi] at e
   subst e
   show Μ _ _ (retInt (c4 b.toList)) _ _ _
   rw [hb];refine wpAny_ret_mkInt ?_;simp only [kh,kdr] at h;unfold reduceHash at h
   show Μ _ _ (if (decide (-(2:Int)^63<=c4 (gq P w ds))&&decide (c4 (gq P w ds)<2^63))=true then _ else _) Q E _
   by_cases hr:(decide (-(2:Int)^63<=c4 (gq P w ds))&&decide (c4 (gq P w ds)<2^63))=true
   ·rw [if_pos hr]
    rw [if_pos hr] at h
    exact Ο (by simpa [kF] using h)
   ·rw [if_neg hr]
    rw [if_neg hr] at h
    exact Δ (kG (Ο (by simpa [kF] using h)))
theorem Lz:∀ (n:Nat) {A:η} {E:Α->Β->Prop} {s:Β} {v:Α} {d:ξ} {Q:Bool->Β->Prop},RK s.heap v d->d.depth<=n->Q true s->Μ (Ξ P w) A (eqIsQuiet n v) Q E s
 | n,A,E,s,_,_,Q,.int i t,_,h=>by rw [eqIsQuiet_byValue _ (by rfl)];exact Ο h
 | n,A,E,s,_,_,Q,.str x t _,_,h=>by rw [eqIsQuiet_byValue _ (by rfl)];exact Ο h
 | 0,A,E,s,_,_,Q,.tup _ _ _ _,hd,h=>by simp [cw] at hd
 | n+1,A,E,s,_,_,Q,.tup (a:=a) (ds:=ds) h1 h2 h3 ks,hd,h=>by
  have hT:=UN h1 h2;have hdd:aE ds<=n:=by simp only [cw] at hd;omega
  unfold eqIsQuiet;refine Δ (fg hT F.slot_tuple_eq.lookup ?_);refine Δ (wpAny_isInstance hT isSubtype_tuple_tuple ?_);simp only [Bool.not_true,eh,if_false];refine Δ (f8 h1 h3 ?_);refine Δ ?_;rw [Option.getD_some,<- Array.forIn_toList];refine wpAny_forIn_list _ (fun Y2 r s'=>r.1=none/\s'=s/\∃ left,fH s.heap Y2 left/\aE left<=n) _ ?_ ?_ _ _ ⟨rfl,rfl,ds,ks,hdd⟩
  ·rintro v Y2 r s' ⟨hr,rfl,left,hl,hdl⟩
   cases hl with
   | @cons _ d _ ds' hk hl' =>
    simp only [aE] at hdl;refine Δ (Lz n hk (by omega) ?_);simp only [Bool.not_true,eh,if_false];exact Ο ⟨rfl,rfl,ds',hl',by omega⟩
  ·rintro ⟨r1,r2⟩ s' ⟨hr,rfl,_⟩
   simp only at hr;subst hr;exact Ο h
noncomputable def iU (P:Ρ) (w:Ω):HeapKind P w ξ where
 is:=fun h d a=>RK h (.ref a) d/\d.depth<=8
 hash:=kh P w
 draws:=kdr
 room:=fun A=>A.units+8<fw
 inj:=fun hx hy=>hx.1.inj hy.1
 keeps:=fun x ho hd hs=>⟨x.1.keeps ho hd hs,x.2⟩
 pyHash:=fun hu hk h=>Ly 8 hk.1 hk.2 hu h
 eqBool:=fun {A E s x y a b Q} hu hx hy h=>by
  obtain ⟨⟨as,r1⟩,l1⟩:=hx.1.reads;obtain ⟨⟨bs,r2⟩,l2⟩:=hy.1.reads;have hm:min x.depth y.depth<=8:=ap (Nat.min_le_left _ _) hx.2;exact SeqAt.eqAt_reads x y A s _ _ _ _ r1 r2 l1 l2 (by omega) P w E Q (by rw [KO.eqv hx.1.ko hy.1.ko];exact h)
 quiet:=fun hk h=>Lz 8 hk.1 hk.2 h
end
abbrev Dx:=List (ξ×Addr×Addr)
def Wm (x:ξ×Addr×Addr):ξ×Addr×Value:=(x.1,x.2.1,.ref x.2.2)
noncomputable def fj (P:Ρ) (w:Ω) (a:Addr) (xs:Dx):HO := .ext fun h=>(a==eW)=false/\∃ o es ep,h.get? a=some o/\o.ExactDict/\o.data = .dict es ep/\es.toList=(xs.map Wm).map (entryOfKey (iU P w))
theorem LK {P:Ρ} {w:Ω} {H:Hp} {h:Heap} {a:Addr} {xs:Dx} (hd:(a==eW)=false) (e:∃ o es ep,h.get? a=some o/\o.ExactDict/\o.data = .dict es ep/\es.toList=(xs.map Wm).map (entryOfKey (iU P w))):YO P w H h a (fj P w a xs):=by
 refine ⟨⟨hd,e⟩,?_,fun h1 h2 p k=>?_⟩
 ·obtain ⟨o,es,ep,h1,_⟩:=e
  exact ⟨o,h1⟩
 ·obtain ⟨q,o,es,ep,g1,g2⟩:=p
  exact ⟨q,o,es,ep,k _ g1,g2⟩
structure DK (K:Ι) (H:Hp) (b:Addr) (d:ξ):Prop where
 den:Den K H (.ref b) d
 ko:KO d
 dp:d.depth<=8
theorem DK.keep {K:Ι} {H H':Hp} {b:Addr} {d:ξ} (h:DK K H b d) (s:Yg H H'):DK K H' b d:=⟨h.den.keep s,h.ko,h.dp⟩
noncomputable def bK (xs:Dx) (d:ξ):Option Addr:=(xs.find? fun x=>decide (x.1=d)).map (·.2.2)
structure cZ (P:Ρ) (w:Ω) (K:Ι) (H:Hp) (a:Addr) (xs:Dx):Prop where
 at_:H a=some (fj P w a xs)
 nd:(xs.map (·.1)).Nodup
 len:xs.length<=1000
 keys:∀ x∈xs,DK K H x.2.1 x.1
section
variable {X:Cx} {pins:List (Addr×Obj)} {σ:St} {H:Hp} {s:Β} {a b:Addr} {d:ξ} {xs:Dx} {u r:Α} {A:η} {E:Α->Β->Prop}
theorem QQ (I:Inv X pins σ H s) (h:DK X.K H b d):(iU X.prog X.w).is s.heap d b:=by
 obtain ⟨as,r⟩:=h.den.reads I (show YH (.ref b) (.ref b) from rfl);exact ⟨RK.of h.ko r h.den.lay,h.dp⟩
theorem QR (I:Inv X pins σ H s) (h:cZ X.prog X.w X.K H a xs):(a==eW)=false/\s.heap.DictOfH (iU X.prog X.w) a (xs.map Wm):=by
 obtain ⟨⟨hd,o,es,ep,h1,h2,h3,h4⟩,_⟩:=(show YO X.prog X.w H s.heap a (fj X.prog X.w a xs) from I.hok a _ h.at_);refine ⟨hd,o,es,ep,h1,h2,h3,h4,fun x hx=>?_,?_⟩
 ·obtain ⟨y,hy,rfl⟩:=ae.mp hx
  exact QQ I (h.keys y hy)
 ·have:(xs.map Wm).map (·.1)=xs.map (·.1):=by rw [List.map_map];rfl
  rw [this];exact h.nd
theorem Vd (xs:Dx) (d:ξ):(atKey (xs.map Wm) d).map (·.2)=(bK xs d).map Α.ref:=by
 induction xs with
 | nil=>rfl
 | cons x xs ih =>
  by_cases h:x.1=d
  ·simp [atKey,bK,List.find?_cons,Wm,h]
  ·simp only [atKey,bK,aS,List.find?_cons,Wm,h] at ih ⊢
   simpa using ih
theorem Yb2 {p:Addr} {Q:Α->Β->Prop} (hu:A.units+9<fw) (I:Inv X pins σ H s) (g:cZ X.prog X.w X.K H a xs) (k:DK X.K H b d) (l:bK xs d=some p) (h:∀ s',Inv X pins σ H s'->Q (.ref p) s') :
  Μ (Ξ X.prog X.w) A (j2 (.ref a) (.ref b)) Q E s:=by
 obtain ⟨hd,dd⟩:=QR I g;have e:=Vd xs d;rw [l] at e
 obtain ⟨q,hq,hq2⟩:=ο.mp e;refine wpAny_getItem_heap (show A.in1.units+8<fw from by have:A.in1.units=A.units+1:=rfl;omega) (QQ I k) dd hq ?_;rw [hq2];exact h _ (I.tok _)
theorem Yd5 {Q:Α->Β->Prop} (hu:A.units+9<fw) (I:Inv X pins σ H s) (g:cZ X.prog X.w X.K H a xs) (k:DK X.K H b d) (h:∀ s',Inv X pins σ H s'->Q (.bool (!(bK xs d).isSome)) s') :
  Μ (Ξ X.prog X.w) A (bj .NotIn (.ref b) (.ref a)) Q E s:=by
 obtain ⟨hd,dd⟩:=QR I g;refine wpAny_notIn_heap (show A.in1.units+8<fw from by have:A.in1.units=A.units+1:=rfl;omega) (QQ I k) hd dd ?_;have e:=congrArg eS (Vd xs d);rw [Option.isSome_map,Option.isSome_map] at e
 rw [e];exact h _ (I.tok _)
theorem Yb3 {p:Addr} {Q:Unit->Β->Prop} (hu:A.units+9<fw) (I:Inv X pins σ H s) (g:cZ X.prog X.w X.K H a xs) (k:DK X.K H b d) (l:bK xs d=none) (hl:xs.length<1000) (h:∀ s',Inv X pins σ (upd H a (fj X.prog X.w a (xs++[(d,b,p)]))) s'->Q () s') :
  Μ (Ξ X.prog X.w) A (setItem (.ref a) (.ref b) (.ref p)) Q E s:=by
 obtain ⟨hd,dd⟩:=QR I g;have hz:(xs.map Wm).length<=sizeLine:=by rw [Θ];exact ap (fT hl) (by decide)
 refine wpAny_setItem_heap (hsz:=hz) (show A.in1.units+8<fw from by have:A.in1.units=A.units+1:=rfl;omega) (QQ I k) dd fun h' LQ hs=>h _ ?_
 have e:atKey (xs.map Wm) d=none:=by
  have e:=Vd xs d;rw [l] at e
  cases q:atKey (xs.map Wm) d with
  | none=>rfl
  | some z=>rw [q] at e;cases e
 rw [storedH_new e] at LQ
 obtain ⟨q,es,ep,hq,h2,h3,h4,_,h5⟩:=LQ;refine Yfg I (by rw [g.at_];exact dv) hs ⟨q,hq⟩ (LK hd ⟨q,es,ep,hq,h2,h3,?_⟩);rw [h4,am (f:=Wm)];rfl
end
def Ah (P:Ρ) (w:Ω) (K:Ι) (td ty:TE):TE:=fun σ H Q=>td σ H fun x H1=>ty σ H1 fun y H2=>∃ a b xs d p,x = .ref a/\y = .ref b/\cZ P w K H2 a xs/\DK K H2 b d/\bK xs d=some p/\Q (.ref p) H2
def LR (P:Ρ) (w:Ω) (K:Ι) (td ty tv:TE):TS:=fun D σ H=>tv σ H fun v H1=>td σ H1 fun x H2=>ty σ H2 fun y H3=>∃ a b xs d p,v = .ref p/\x = .ref a/\y = .ref b/\cZ P w K H3 a xs/\DK K H3 b d/\bK xs d=none/\xs.length<1000/\D.nx σ (upd H3 a (fj P w a (xs++[(d,b,p)])))
def Yf9 (P:Ρ) (w:Ω):TE:=fun _ H Q=>∀ p,H p=none->Q (.ref p) (upd H p (fj P w p []))
section
variable {X:Cx} {o i e value:Expr} {pos pos' tpos:Pos} {td ty tv:TE} {k:Nat}
theorem Ai {A:η} {k:Nat} (hr:aO k A):A.units+9<cLine:=Nat.lt_of_le_of_lt (Nat.add_le_add_left (by decide:9<=64) _) hr.units
theorem Yd6 (hr:aO k X.A) (ho:PE X o td) (hi:PE X i ty) (hs:zJ i):PE X (.Subscript o i pos) (Ah X.prog X.w X.K td ty):=by
 intro pins s σ H Q I h;refine Yfh F.slot_dict_getitem.lookup hs (aG (ho pins s σ H _ I h) fun u s1 ⟨x,H1,I1,rx,q1⟩=>aG (hi pins s1 σ H1 _ I1 q1) fun iv s2 ⟨y,H2,I2,ry,a,b,xs,d,p,ex,ey,g,kk,l,q2⟩=>?_);subst ex ey;obtain rfl:u=ζ a:=rx;obtain rfl:iv=ζ b:=ry;exact ⟨(QR I2 g).2.typeIs,Yb2 (Ai hr) I2 g kk l fun s3 I3=>⟨.ref p,H2,I3,rfl,q2⟩⟩
theorem Yd7 (hr:aO k X.A) (ho:PE X o td) (hi:PE X i ty) (hv:PE X value tv) (hs:kr value (some (.Subscript o i pos')) pos.line X.env=pure false) :
  PS X (.Assign [.Subscript o i pos'] value pos) (LR X.prog X.w X.K td ty tv):=by
 intro pins s σ H D I h;refine wpAny_Assign_Subscript (aG (hv pins s σ H _ I h) fun r s1 ⟨v,H1,I1,rv,q1⟩=>aG (ho pins s1 σ H1 _ I1 q1) fun u s2 ⟨x,H2,I2,rx,q2⟩=>aG (hi pins s2 σ H2 _ I2 q2) fun iv s3 ⟨y,H3,I3,ry,a,b,xs,d,p,ev,ex,ey,g,kk,l,hl,q3⟩=>?_) hs;subst ex ey ev;obtain rfl:u=ζ a:=rx;obtain rfl:iv=ζ b:=ry;obtain rfl:r=ζ p:=rv;exact Yb3 (Ai hr) I3 g kk l hl fun s4 I4=>⟨σ,_,I4,q3⟩
theorem Yd8:PE X (.Dict [] [] pos) (Yf9 X.prog X.w):=fun pins s σ H Q I h =>
 wpAny_Dict_empty ⟨.ref s.heap.objs.size,_,I.laid (a:=s.heap.objs.size) (o:=fj X.prog X.w s.heap.objs.size []) (t':=s.toks) (fun _ _ q=>Ζ _ q) (Ν _) (LK (beq_eq_false_iff_ne.mpr (ψ (ρ I.big))) ⟨_,#[],0,δ _ rfl,⟨rfl,rfl,rfl⟩,rfl,rfl⟩),rfl,h _ (I.hok.fresh (Ν _))⟩
end
def VX (H H':Hp):Prop:=∀ b xs,Rd H b (.tup xs)->Rd H' b (.tup xs)
theorem VX.sq {K:Ι} {H H':Hp} (t:VX H H') {b:Addr} {xs:List V} (h:aq K H b xs):aq K H' b xs:=by
 rcases h with h | h
 ·exact .inl (t _ _ h)
 ·exact .inr h
theorem Mf {H H':Hp} (s:Yg H H'):VX H H':=fun b xs h=>by
 rcases h with h | ⟨o,h⟩
 ·exact .inl (s _ _ h)
 ·exact .inr ⟨o,s _ _ h⟩
theorem Yd9 {H H':Hp} {P:Addr} {u:HO} (hk:∀ b o,b≠P->H b=some o->H' b=some o) (hP:H P=some u) (h1:∀ xs,u ≠ .tup xs) (h2:∀ o v,u ≠ .cM o v):VX H H':=fun b xs h=>by
 rcases h with h | ⟨o,h⟩
 ·exact .inl (hk _ _ (YE h hP (fun z=>h1 _ z.symm)) h)
 ·exact .inr ⟨o,hk _ _ (YE h hP (fun z=>h2 _ _ z.symm)) h⟩
theorem Yea {K:Ι} {H H':Hp} (t:VX H H') {d:ξ} {v:V} (k:KO d) (r:Den K H v d):Den K H' v d:=by
 induction k using KO.rec (motive_2:=fun ds _=>∀ {vs:List V},dZ K H vs ds->dZ K H' vs ds) generalizing v with
 | int i=>cases r with | int _=>exact .int i
 | str x=>cases r with | str _ h=>exact .str x h
 | tup _ ih=>cases r with | tup h hs=>exact .tup (t.sq h) (ih hs)
 | nil=>rename_i r;cases r;exact .nil
 | cons _ _ ih ihs=>rename_i r;cases r with | cons a b=>exact .cons (ih a) (ihs b)
theorem DK.qm {K:Ι} {H H':Hp} {b:Addr} {d:ξ} (h:DK K H b d) (t:VX H H'):DK K H' b d:=⟨Yea t h.ko h.den,h.ko,h.dp⟩
theorem cZ.keep {P:Ρ} {w:Ω} {K:Ι} {H H':Hp} {a:Addr} {xs:Dx} (h:cZ P w K H a xs) (t:VX H H') (e:H' a=some (fj P w a xs)):cZ P w K H' a xs:=⟨e,h.nd,h.len,fun x hx=>(h.keys x hx).qm t⟩
theorem Yb4 {xs:Dx} {d:ξ} (h:bK xs d=none):d∉xs.map (·.1):=by
 intro hm;obtain ⟨x,hx,rfl⟩:=ae.mp hm;unfold bK at h;rw [Option.map_eq_none_iff,List.find?_eq_none] at h
 exact h x hx (by simp)
theorem UO (xs:Dx) (d e:ξ) (b p:Addr) (h:bK xs d=none):bK (xs++[(d,b,p)]) e=if e=d then some p else bK xs e:=by
 unfold bK;rw [List.find?_append];by_cases c:e=d
 ·subst c
  have h':xs.find? (fun x=>decide (x.1=e))=none:=by
   unfold bK at h
   rwa [Option.map_eq_none_iff] at h
  rw [h',if_pos rfl];simp
 ·rw [if_neg c]
  have:([(d,b,p)]:Dx).find? (fun x=>decide (x.1=e))=none:=by simp [ψ c]
  rw [this];simp
theorem cZ.put {P:Ρ} {w:Ω} {K:Ι} {H:Hp} {a b p:Addr} {d:ξ} {xs:Dx} (h:cZ P w K H a xs) (k:DK K H b d) (l:bK xs d=none) (hl:xs.length<1000):cZ P w K (upd H a (fj P w a (xs++[(d,b,p)]))) a (xs++[(d,b,p)]):=by
 have t:VX H (upd H a (fj P w a (xs++[(d,b,p)]))):=Yd9 (fun b o hb e=>by rw [Ye hb];exact e) h.at_ (by intro xs z;cases z) (by intro o v z;cases z);refine ⟨Yb,?_,by rw [Κ,ω];omega,fun x hx=>?_⟩
 ·rw [am]
  refine iO.mpr ⟨h.nd,by simp,fun x hx y hy e=>?_⟩;subst e;have:x=d:=by simpa using hy
  subst this;exact Yb4 l hx
 ·rcases τ.mp hx with hx | hx
  ·exact (h.keys x hx).qm t
  ·have:x=(d,b,p):=by simpa using hx
   subst this;exact k.qm t
theorem Ydc {P:Ρ} {w:Ω} {K:Ι} {H:Hp} {a:Addr} (h:H a=some (fj P w a [])):cZ P w K H a []:=⟨h,by simp,by simp,fun x hx=>by cases hx⟩
section
variable {X:Cx} {k:Nat}
theorem Yb5 (hr:aO k X.A):cu X (bj .NotIn) (fun y x H Q=>∃ a b xs d,x = .ref a/\y = .ref b/\cZ X.prog X.w X.K H a xs/\DK X.K H b d/\Q (.bl (!(bK xs d).isSome)) H):=by
 intro pins s σ H y x u v Q I ry rx h;obtain ⟨a,b,xs,d,rfl,rfl,g,kk,q⟩:=h
 cases (show u=ζ b from ry)
 cases (show v=ζ a from rx)
 exact Yd5 (Ai hr) I g kk fun s' I'=>⟨.bl (!(bK xs d).isSome),H,I',rfl,q⟩
end
end L2
namespace PySem.W
open PySem PyProof.Rows
open Builtin Builtin.ObjectAttr
section
variable {prog:Ρ} {w:Ω} {A:η} {E:Α->Β->Prop} {hh:Heap} {g:Array GenState} {d:Drawn} {t:Nat} {os:OsState} {K:Frag} {x C D:Addr} {ox:Obj} {mA:Str->Option Α} {f:Str} {v:Α}
theorem YaG {tk:Tok} {Q:Fin->Β->Prop} (In:K.In hh) (hd:kq K C=true) (hx:hh.get? x=some ox) (hc:ox.cls = .ref C) (hnc:∀ c,ox.data ≠ .cls c) (hdc:ox.dict=some D) (hns:hh.Ns D mA) (hv:mA f=some v) (ha:bS K (.ref C) f=some none)
  (hq:Q (.done (.ret v)) ⟨hh,g,d,t,os⟩):Μ (Ξ prog w) A (Builtin.«object.__getattribute__» ⟨[.ref x,.str f tk],[]⟩) Q E ⟨hh,g,d,t,os⟩:=by
 have L3:=fE (M:=Ξ prog w) In ha;unfold Builtin.«object.__getattribute__»
 repeat (any_goals (first | assumption | (with_reducible refine bq hx ?_;rw [hc]) | with_reducible refine L3.at ?_ | wp_step))
 obtain ⟨cd,e,hcd⟩:=kS hd;have L4:=looks_clsIn (M:=Ξ prog w) In e
 split
 ·rename_i c R5
  exact absurd R5 (hnc c)
 unfold instanceDict
 repeat (any_goals (first | assumption | (with_reducible refine bq hx ?_;simp only [hc]) | with_reducible refine L4.at ?_ | wp_step))
 rw [hdc]
 repeat (any_goals (first | assumption | (with_reducible refine wpAny_nsGet hns ?_;rw [hv]) | wp_step))
theorem Yb6 {tk:Tok} {R:Result->Β->Prop} (In:K.In hh) (hd:kq K C=true) (hx:hh.get? x=some ox) (hc:ox.cls = .ref C) (hnc:∀ c,ox.data ≠ .cls c) (hdc:ox.dict=some D) (hns:hh.Ns D mA) (hv:mA f=some v) (hb:iA K C (.type "BaseException")=some true) (ha:bS K (.ref C) f=some none)
  (hq:R (.ok (.ret v)) ⟨hh,g,d,t,os⟩):ei (Ξ prog w) A (.call (.builtin "BaseException.__getattribute__") ⟨[.ref x,.str f tk],[]⟩) R ⟨hh,g,d,t,os⟩ :=
 eA (by decide +kernel) F.entry_bexc_ga (Uf In hx hc hb (YaG In hd hx hc hnc hdc hns hv ha hq))
theorem qp {b:Bool} {Q:Α->Β->Prop} (In:K.In hh) (hd:kq K C=true) (hx:hh.get? x=some ox) (hc:ox.cls = .ref C) (hnc:∀ c,ox.data ≠ .cls c) (hdc:ox.dict=some D) (hns:hh.Ns D mA) (hv:mA f=some v) (hh':handedOut v=pure v) (hb:iA K C (.type "BaseException")=some true) (ha:bS K (.ref C) f=some none)
  (hga:bS K (.ref C) "__getattribute__"=some (some (.builtin "BaseException.__getattribute__"))) (hgt:bS K (.ref C) "__getattr__"=some none) (hq:Q v ⟨hh,g,d,t+1,os⟩) :
  Μ (Ξ prog w) A (getAttr (.ref x) f b) Q E ⟨hh,g,d,t,os⟩:=by
 have hbd:=Qr (.ref x);have e2:(c9 "BaseException.__getattribute__"==c9 "object.__getattribute__")=false:=by decide +kernel
 have e1:(onTheHeap (ζ C)&&c9 "BaseException.__getattribute__"==c9 "object.__getattribute__")=false:=by rw [e2];rfl
 have L1:=fE (M:=Ξ prog w) In hga;have L2:=fE (M:=Ξ prog w) In hgt;unfold getAttr getAttrBy
 repeat (any_goals (first | assumption | (with_reducible refine bq hx ?_;rw [hc]) | with_reducible refine L1.at ?_ | with_reducible refine L2.at ?_ | wp_step))
 have e0:(b&&onTheHeap (c9 "BaseException.__getattribute__"))=false:=by cases b<;>rfl
 rw [if_neg (by rw [e0];decide)];unfold boundAndCalled
 repeat (any_goals (first | assumption | wp_step))
 refine Yb6 In hd hx hc hnc hdc hns hv hb ha ?_
 repeat (any_goals (first | assumption | wp_step))
end
section
variable {prog:Ρ} {w:Ω} {A:η} {E:Α->Β->Prop} {s:Β} {K:Frag} {x C C' D:Addr} {ox:Obj} {od:Option Obj} {mA:Str->Option Α} {name:Str} {v:Α} {R:Result->Β->Prop}
def jy (K:Frag) (C C':Addr):Bool:=(clsIn K C).any fun cd=>cd.mro==[.ref C,.ref C',.type "ValueError",.type "Exception",.type "BaseException",.type "object"]
theorem UP {tk:Tok} (X:K.In s.heap) (I:InstAt s.heap x ox C od) (hm:jy K C C'=true) (ha:bS K (.ref C) name=some none)
  (h:Μ (Ξ prog w) A.in1 (storeInOwnDict (.ref x) (.ref C) (.str name tk) name v false)
   (fun fin s'=>match fin with | .done f=>R (.ok f) s' | .again c'=>c'.quiet=true/\ei (Ξ prog w) A c' R s') (fun e s'=>R (.error e) s') s) :
  ei (Ξ prog w) A (.call (.builtin "object.__setattr__") ⟨[.ref x,.str name tk,v],[]⟩) R s:=by
 have SF:=PySem.F.store_object;obtain ⟨cd,hc,ho⟩:=kS hm;have ho:=eq_of_beq ho;have sub:Looks (Ξ prog w) s.heap (isInstance (.ref x) (.type "object")) true:=I.type.andThen (looks_mroIn X (by unfold iA;rw [hc,Option.bind_some,ho];rfl));refine eA SF.slot.plain SF.entry (@check_slot (Ξ prog w) _ _ s "object.__setattr__" "object" "__setattr__" (.ref x) [.str name tk,v] [] _ SF.kind SF.split sub (SF.args (.ref x) (.str name tk) v) ?_);have hmro:Looks (Ξ prog w) s.heap (mroOf (.ref C)) cd.mro:=(looks_clsIn X hc).andThen .now;rw [osa_eq,refuse_eq];refine Δ (Δ (I.type.here (Δ (hmro.here ?_))));rw [ho,refuseLoop_ref,refuseLoop_ref,PySem.F.store_ValueError.passes];refine Ο (Δ (I.type.here (Δ ((fE X ha).here (Δ (Ο ?_))))));exact h
end
section
variable {prog:Ρ} {w:Ω} {A:η} {E:Α->Β->Prop} {s:Β} {K:Frag} {x C C' D:Addr} {ox:Obj} {od:Option Obj} {mA:Str->Option Α} {name:Str} {v:Α} {vs:Array Α} {Q:Unit->Β->Prop}
theorem Mg (hf:ox.data = .fields vs):notCls ox=true:=by unfold notCls;rw [hf]
theorem qt {ns:List Str} (X:K.In s.heap) (hx:s.heap.get? x=some ox) (hc:ox.cls = .ref C) (hf:ox.data = .fields vs) (hdc:ox.dict=some D) (hn:s.heap.Ns1 D mA) (hne:D≠x) (hd:kq K C=true) (hm:jy K C C'=true) (ha:bS K (.ref C) name=some none)
  (hs:bS K (.ref C) "__setattr__"=some (some (.builtin "object.__setattr__"))) (hw:io mA ns) (hsz:ns.length<=sizeLine)
  (h:∀ h',h'.Ns1 D (fun y=>if y=name then some v else mA y)->cy D s.heap h'->Q () { s with heap:=h',toks:=s.toks+2 }):Μ (Ξ prog w) A (setAttr (.ref x) name v) Q E s:=by
 obtain ⟨oD,_,_,R6,_⟩:=id hn;have J:InstAt s.heap x ox C (some oD):=⟨hx,hc,Mg hf,by rw [hdc];exact R6⟩;refine set_plain X J hs (UP (s:={ s with toks:=s.toks+1 }) (C':=C') X J hm ha ?_);obtain ⟨cd,hcd,hd'⟩:=kS hd;refine Δ (Ο (Δ (Δ (ke hx ?_))));simp only [hc];refine Δ (Looks.here (s:={ s with toks:=s.toks+1 }) (looks_clsIn X hcd) ?_);rw [hd',hdc];refine Ο (a:=some D) (Δ (Ο (Δ ?_)));refine wpAny_nsSet1 (s:={ s with toks:=s.toks+1 }) hn fun h' hn2 hs2=>?_
 obtain ⟨oD,esD,epD,hoD,hdD,hcD⟩:=hn2.count (PySem.Within.cons name v hw);refine Δ (wpAny_lookBehind hoD (by rw [hdD];exact pastItsLine_dict (ap hcD (by rw [ai];omega))) ?_);exact Ο (h _ hn2 hs2)
theorem rG (X:K.In s.heap) (hx:s.heap.get? x=some ox) (hc:ox.cls = .ref C) (hf:ox.data = .fields vs) (hdc:ox.dict=none) (hd:kq K C=true) (hm:jy K C C'=true) (ha:bS K (.ref C) name=some none)
  (hs:bS K (.ref C) "__setattr__"=some (some (.builtin "object.__setattr__")))
  (h:∀ h',h'.Ns1 s.heap.objs.size (fun y=>if y=name then some v else none)->h'.get? x=some { ox with dict:=some s.heap.objs.size }->(∀ b o,b≠x->s.heap.get? b=some o->h'.get? b=some o)->Q () { s with heap:=h',toks:=s.toks+2 }):Μ (Ξ prog w) A (setAttr (.ref x) name v) Q E s:=by
 have J:InstAt s.heap x ox C none:=⟨hx,hc,Mg hf,by rw [hdc];exact dv⟩;refine set_plain X J hs (UP (s:={ s with toks:=s.toks+1 }) (C':=C') X J hm ha ?_);obtain ⟨cd,hcd,hd'⟩:=kS hd;refine Δ (Ο (Δ (Δ (ke hx ?_))));simp only [hc];refine Δ (Looks.here (s:={ s with toks:=s.toks+1 }) (looks_clsIn X hcd) ?_);rw [hd',hdc,hf];rw [if_neg (by decide)];dsimp only;rw [if_neg (by simp [typeHasDict])];have hx₁:(s.heap.push { cls := .type "dict",data := .dict #[] }).get? x=some ox:=Ζ _ hx;have hxs:x≠s.heap.objs.size:=ρ (Φ hx);refine Δ (wpAny_alloc' (Δ (wpAny_update' hx₁ (Ο ?_))));generalize hH:(s.heap.push { cls := .type "dict",data := .dict #[] }).update x (fun o=>{ cls:=o.cls,dict:=some s.heap.objs.size,data:=o.data,slots:=o.slots })=H2;have hgd:H2.get? s.heap.objs.size=some { cls := .type "dict",data := .dict #[] }:=by
  rw [<- hH];exact (Heap.get?_update_ne _ _ _ _ hxs.symm).trans (Heap.get?_push_at rfl rfl)
 have hx2:H2.get? x=some { cls:=ox.cls,dict:=some s.heap.objs.size,data:=ox.data,slots:=ox.slots }:=by
  rw [<- hH];refine c5 _ hx₁ ?_;have hfr:=(Heap.get?_some_iff.mp hx).2;obtain ⟨oc,od,odt,osl⟩:=ox
  cases odt<;>first | rfl | exact hfr
 have hko:∀ b o,b≠x->s.heap.get? b=some o->H2.get? b=some o:=fun b o hb e=>by
  rw [<- hH];exact (Heap.get?_update_ne _ _ _ _ hb).trans (Ζ _ e)
 have hnd:H2.Ns s.heap.objs.size (fun _=>none):=⟨_,#[],_,hgd,rfl,fun e he=>absurd he (by simp),fun _=>rfl⟩;refine Δ (Ο (Δ ?_));refine wpAny_nsSet1 (s:={ s with heap:=H2,toks:=s.toks+1 }) (Heap.Ns1.of_empty hnd) fun h' hn2 hs2=>?_
 obtain ⟨oD,esD,epD,hoD,hdD,hcD⟩:=hn2.count (PySem.Within.cons name v PySem.Within.nil);refine Δ (wpAny_lookBehind hoD (by rw [hdD];exact pastItsLine_dict (ap hcD (by rw [ai,fk,kn];omega))) ?_);exact Ο (h _ hn2 ((hs2.2 x hxs).trans hx2) fun b o hb e=>(hs2.2 b (ρ (Φ e))).trans (hko b o hb e))
end
end PySem.W
namespace PySem.W
open PySem PyProof.Rows
theorem Yb7 {K:Frag} {h:Heap} {N:Addr} {mg:Str->Option Α} {n:Str} {v:Α} (X:K.In h) (G:h.Ns N mg) (e:nsIn K N n=some (some v)):mg n=some v:=by
 obtain ⟨o,es,ep,ho,hd,_,hf⟩:=G;unfold nsIn at e
 split at e
 ·rename_i c d es' n' sl q
  have:=X _ _ q;rw [ho] at this
  cases this
  cases hd
  split at e
  ·rename_i he
   rw [<- hf];unfold nsFind findBy;rw [<- Array.find?_toList,he]
   cases e
   rfl
  ·split at e<;>cases e
 ·cases e
def iD (K:Frag) (C:Addr) (tl:List Α) (nw:String) (f:Addr):Bool:=match K.lookup C with
 | some ⟨.type "type",_,.cls cd,sl⟩=>(match cd.mro,sl.toList with
  | .ref c::bm,[_,_,_,_,some (.builtin n),_]=>(c==C&&n==nw)&&((!cd.hasDel&&tailIn K tl bm)&&(nsOkIn K cd.ns&&nsIn K cd.ns "__init__"==some (some (.ref f))))
  | _,_=>false)
 | _=>false
theorem iV {K:Frag} {h:Heap} {C f:Addr} {tl:List Α} {nw:String} (In:K.In h) (q:iD K C tl nw f=true) :
  ∃ (bm:List Α) (ns:Addr) (nm qn:Str) (bs:List Α) (hd:Bool) (sn:List Str) (sub:List Α) (ab:Bool) (col:Option Bool) (dd:Option Addr) (k0 k1 k2 k3 k5:Option Α) (mN:Str->Option Α),
   h.get? C=some (fo nm qn C ns bs bm hd sn sub ab col dd k0 k1 k2 k3 k5 nw)/\h.Ns ns mN/\mN "__init__"=some (.ref f)/\OwnTail h tl bm:=by
 unfold iD at q
 split at q
 case h_2=>exact absurd q (by decide)
 case h_1 dd cd sl lk =>
  split at q
  case h_2=>exact absurd q (by decide)
  case h_1 c2 bm k0 k1 k2 k3 n k5 em es =>
   simp only [beq_iff_eq,c6,Bool.not_eq_true'] at q;obtain ⟨⟨q1,q2⟩,⟨q3,q4⟩,q5,q6⟩:=q;obtain ⟨nm,bs,mro,ns,qn,hd,sn,sub,ab,col,del⟩:=cd;obtain ⟨lst⟩:=sl;dsimp only at em q3 q5 q6 es;subst q1 q2 em q3 es;have hN:h.Ns ns _ := .of_isNs (isNs_of_in In q5);exact ⟨bm,ns,nm,qn,bs,hd,sn,sub,ab,col,dd,k0,k1,k2,k3,k5,_,In _ _ lk,hN,Yb7 In hN q6,tail_of_in In q4⟩
abbrev W5 (a0:Α):Array Value:=#[a0,.none,.none,.none,.bool false,.none]
section
variable {prog:Ρ} {w:Ω} {A:η} {E:Α->Β->Prop} {h:Heap} {g:Array GenState} {d:Drawn} {t:Nat} {os:OsState}
variable {nm q:Str} {C N:Addr} {bs bm bmB:List Α} {hdct:Bool} {sn:List Str} {sub:List Α} {ab:Bool} {col:Option Bool} {dd:Option Addr} {k0 k1 k2 k3 k5:Option Α} {B newId initId:String}
theorem QH (F:ExcBaseFacts B newId initId bmB) (T:OwnTail h bmB bm) {mN:Str->Option Α} {Y2:List Α} {fI:Addr} {oI:Obj} {Q:Fin->Β->Prop}
  (hC:h.get? C=some (fo nm q C N bs bm hdct sn sub ab col dd k0 k1 k2 k3 k5 newId)) (hn:h.Ns N mN) (hi:mN "__init__"=some (.ref fI))
  (hfI:h.get? fI=some oI) (hfc:oI.cls = .type "function")
  (hq:∀ h' e,km h h' e (.ref C) Y2->e=h.objs.size+1 ->
   Μ (Ξ prog w) A (call (.ref fI) (.ref e::Y2)) (fun r s'=>r = .none/\Q (.done (.ret (.ref e))) s') E ⟨h',g,d,t,os⟩) (hrest:Y2.length<=sizeLine) :
  Μ (Ξ prog w) A (Builtin.«type.__call__» ⟨.ref C::Y2,[]⟩) Q E ⟨h,g,d,t,os⟩:=by
 repeat (first | with_reducible refine bq hC ?_ | with_reducible refine wpAny_madeBy_exc hC ?_ | wp_step)
 refine codeAny_call_builtin_code (Code.quiet_builtin _ F.quiet) (wpAny_check_new_subT F T hC ?_);refine codeAny_exc_new_subT F T hC ?_ hrest
 show Μ _ _ _ _ _ _
 have keep:∀ b o,h.get? b=some o->((h.push { cls := .type "tuple",data := .seq Y2.toArray }).push { cls := .ref C,data := .fields #[.ref h.objs.size,.none,.none,.none,.bool false,.none] }).get? b=some o :=
  fun b o e=>Ζ _ (Ζ _ e)
 have hget:((h.push { cls := .type "tuple",data := .seq Y2.toArray }).push
   { cls := .ref C,data := .fields #[.ref h.objs.size,.none,.none,.none,.bool false,.none] }).get? (h.objs.size+1)=some
   { cls := .ref C,data := .fields #[.ref h.objs.size,.none,.none,.none,.bool false,.none] }:=by heap_get
 have hC₁:=keep _ _ hC;have hn₁:=hn.keeps keep;have hcC:(ζ C::bm).contains (.ref C)=true:=by simp
 have T₁:=T.keeps keep;unfold isInstance
 repeat (first | with_reducible refine bq hget ?_ | (with_reducible refine wpAny_isSubtype_exc hC₁ ?_;rw [hcC]) | wp_step)
 show Μ _ _ (kH (.ref C) _) _ _ _
 refine wpAny_typeLookup_tail hC₁ hn₁ T₁ F.mroIs F.init.lookup ?_;rw [hi];refine i5 (Δ ?_);unfold bindSpecial;refine Δ (wpAny_typeOf (T:="function") ⟨_,keep _ _ hfI,hfc⟩ ?_);rw [if_pos (by decide)];refine Ο (Δ (aa (hq _ (h.objs.size+1) ⟨keep,Heap.get?_none_of_le (lc _),h.objs.size,hget,Heap.get?_none_of_le (Ν _),?_⟩ rfl) (fun r s' hr=>?_) fun _ _ x=>x))
 ·exact Ζ _ (Heap.get?_push_at rfl rfl)
 ·obtain ⟨rfl,hQ⟩:=hr
  wp_walk
  exact hQ
theorem lN (F:ExcBaseFacts B newId initId bmB) (T:OwnTail h bmB bm) {mN:Str->Option Α} {Y2:List Α} {fI:Addr} {oI:Obj} {Q:Α->Β->Prop}
  (hC:h.get? C=some (fo nm q C N bs bm hdct sn sub ab col dd k0 k1 k2 k3 k5 newId)) (hn:h.Ns N mN) (hi:mN "__init__"=some (.ref fI))
  (hfI:h.get? fI=some oI) (hfc:oI.cls = .type "function")
  (hq:∀ h' e,km h h' e (.ref C) Y2->e=h.objs.size+1 ->
   Μ (Ξ prog w) (A.under (.builtin "type.__call__" ⟨.ref C::Y2,[]⟩)) (call (.ref fI) (.ref e::Y2)) (fun r s'=>r = .none/\Q (.ref e) s') E ⟨h',g,d,t,os⟩) (hrest:Y2.length<=sizeLine) :
  Μ (Ξ prog w) A (call (.ref C) Y2) Q E ⟨h,g,d,t,os⟩:=by
 have f1:=tc_lookup;have f2:=tc_bind (.ref C);have hT:(⟨h,g,d,t,os⟩:Β).TypeIs (.ref C) "type":=⟨_,hC,rfl⟩;refine iE (codeAny_of_tree ?_)
 show Μ _ _ (callAny (.ref C) _) _ _ _
 repeat (any_goals (first | assumption | with_reducible refine bq hC ?_ | wp_step))
 refine ⟨rfl,?_⟩;exact codeAny_call_builtin_at (Code.quiet_builtin _ (by decide +kernel)) entry_typeCall (wpAny_check_type_call_sub hC (QH F T hC hn hi hfI hfc (fun h' e hm he=>hq h' e hm he) hrest))
theorem lO (F:ExcBaseFacts B newId initId bmB) (T:OwnTail h bmB bm) {e:Addr} {dc:Option Addr} {sl:Array (Option Α)} {t0:Addr} {m:Α} {Q:Α->Β->Prop}
  (hC:h.get? C=some (fo nm q C N bs bm hdct sn sub ab col dd k0 k1 k2 k3 k5 newId)) (he:h.get? e=some ⟨.ref C,dc,.fields (W5 (.ref t0)),sl⟩)
  (hq:∀ h' T,h'.get? e=some ⟨.ref C,dc,.fields (W5 (.ref T)),sl⟩->(∀ b o,b≠e->h.get? b=some o->h'.get? b=some o)->Q .none ⟨h',g,d,t,os⟩) :
  Μ (Ξ prog w) A (call (.builtin initId) [.ref e,m]) Q E ⟨h,g,d,t,os⟩:=by
 refine iE (eA F.init.plain F.initEntry (wpAny_check_init_subT F T hC he rfl ?_));have he1:(h.push { cls := .type "tuple",data := .seq [m].toArray }).get? e=some ⟨.ref C,dc,.fields (W5 (.ref t0)),sl⟩:=Ζ _ he
 wp_walk
 refine hq _ h.objs.size ((c5 _ he1 rfl).trans rfl) fun b o hb eb=>?_
 exact (dm _ _ (ψ hb)).trans (Ζ _ eb)
end
section
variable {M:Model} {A:η} {E:Α->Β->Prop} {env:Env}
variable {nm q:Str} {C N:Addr} {bs bm bmB:List Α} {hdct:Bool} {sn:List Str} {sub:List Α} {ab:Bool} {col:Option Bool} {dd:Option Addr} {k0 k1 k2 k3 k5:Option Α} {B newId initId:String}
theorem Vn {s:Β} {x:Sem Α} {Q:Flow->Β->Prop} (hbase:bm.contains (.type "BaseException")=true) (hh:A.handled=none)
  (h:Μ M A x (fun v s₁=>∃ e dc t0 sl,v = .ref e/\s₁.heap.get? C=some (fo nm q C N bs bm hdct sn sub ab col dd k0 k1 k2 k3 k5 newId)/\s₁.heap.get? e=some ⟨.ref C,dc,.fields (W5 (.ref t0)),sl⟩/\E (.ref e) s₁) E s) :
  Μ M A (raiseStmt env (some x) none) Q E s:=by
 have hcB:(ζ C::bm).contains (.type "BaseException")=true:=by rw [List.contains_cons,hbase,Bool.or_true]
 unfold raiseStmt;refine Δ (aa h (fun v s₁ h₁=>?_) fun _ _ x=>x);obtain ⟨e,dc,t0,sl,rfl,hC,he,hE⟩:=h₁;obtain ⟨hp,g,d,tk,os⟩:=s₁
 repeat (first | with_reducible refine bq he ?_ | with_reducible refine bq hC ?_ | (with_reducible refine wpAny_isSubtype_exc hC ?_;rw [hcB]) | wp_step)
 exact wpAny_raiseNew_none hh hE
end
section
variable {prog:Ρ} {w:Ω} {A:η} {E:Α->Β->Prop} {s:Β} {env:Env}
variable {nm q:Str} {C N:Addr} {bs bm bmB:List Α} {hdct:Bool} {sn:List Str} {sub:List Α} {ab:Bool} {col:Option Bool} {dd:Option Addr} {k0 k1 k2 k3 k5:Option Α} {B newId initId:String}
theorem kO {x:Str} {np cpos pos:Pos} {args:List Expr} {Q:Flow->Β->Prop}
  (hbase:bm.contains (.type "BaseException")=true) (hh:A.handled=none) (hplain:(be cpos (Τ args env)).any (·.1)=false)
  (h:Μ (Ξ prog w) A (eval (.Name x np) env) (fun f s₁=>f = .ref C/\Μ (Ξ prog w) A (evalArgs (.ref C) true (be cpos (Τ args env)) [])
   (fun a s₂=>a.kw=[]/\s₂.heap.get? C=some (fo nm q C N bs bm hdct sn sub ab col dd k0 k1 k2 k3 k5 newId) /\
    Μ (Ξ prog w) A (call (.ref C) a.pos) (fun v s₃=>∃ e dc t0 sl,v = .ref e/\s₃.heap.get? C=some (fo nm q C N bs bm hdct sn sub ab col dd k0 k1 k2 k3 k5 newId)/\s₃.heap.get? e=some ⟨.ref C,dc,.fields (W5 (.ref t0)),sl⟩/\E (.ref e) s₃) E s₂) E s₁) E s) :
  Μ (Ξ prog w) A (exec (.Raise (some (.Call (.Name x np) args [] cpos)) none pos) env) Q E s:=by
 rw [arm_exec_Raise]
 first
  | refine Δ (eR (Vn (C:=C) (nm:=nm) (q:=q) (N:=N) (bs:=bs) (bm:=bm) (hdct:=hdct) (sn:=sn) (sub:=sub) (ab:=ab) (col:=col) (dd:=dd) (k0:=k0) (k1:=k1) (k2:=k2) (k3:=k3) (k5:=k5) (newId:=newId) hbase hh (Δ (aa (wpAny_Call_ofName (aa h (fun f s₁ h₁=>?_) fun _ _ x=>x)) (fun v s₃ h₃=>Δ (eR (Ο h₃))) fun _ _ x=>x))))
  | (refine Δ (eR (Vn (C:=C) (nm:=nm) (q:=q) (N:=N) (bs:=bs) (bm:=bm) (hdct:=hdct) (sn:=sn) (sub:=sub) (ab:=ab) (col:=col) (dd:=dd) (k0:=k0) (k1:=k1) (k2:=k2) (k3:=k3) (k5:=k5) (newId:=newId) hbase hh ?_));refine Δ (aa (wpAny_Call_ofName (aa h (fun f s₁ h₁=>?_) fun _ _ x=>x)) (fun v s₃ h₃=>Δ (eR (Ο h₃))) fun _ _ x=>x))
 obtain ⟨rfl,h₁⟩:=h₁;unfold kP;refine Δ (i5 (aa h₁ (fun a s₂ h₂=>Δ (eR ?_)) fun _ _ x=>x));obtain ⟨apos,akw⟩:=a;obtain ⟨hkw,hC,h₂⟩:=h₂;obtain rfl:akw=[]:=hkw;obtain ⟨hp,g,d,tk,os⟩:=s₂;simp only [hplain];refine Δ (wpAny_keeperOf_exc hC ?_);exact Δ (aa h₂ (fun v s₃ h₃=>Δ (i5 (wpAny_point (Ο h₃)))) fun _ _ x=>x)
end
end PySem.W
namespace L2
open PySem PySem.Spec PyProof.Rows
open PySem.W (W5)
def XM (a:Addr) (cls:Α) (dc:Option Addr):HO := .ext fun h=>∃ t0 sl,h.get? a=some ⟨cls,dc,.fields (W5 (.ref t0)),sl⟩
def del (H:Hp) (a:Addr):Hp:=fun b=>if b=a then none else H b
theorem Yeb {H:Hp} {a:Addr}:del H a a=none:=by unfold del;rw [if_pos rfl]
theorem WW {H:Hp} {a b:Addr} (h:b≠a):del H a b=H b:=by unfold del;rw [if_neg h]
theorem Yga {H:Hp} {a b:Addr} {o:HO} (h:del H a b=some o):b≠a/\H b=some o:=by
 unfold del at h
 split at h
 ·cases h
 ·exact ⟨‹_›,h⟩
section
variable {P:Ρ} {w:Ω} {H:Hp} {h:Heap} {a t0:Addr} {cls:Α} {dc:Option Addr} {sl:Array (Option Α)}
theorem Qc (q:h.get? a=some ⟨cls,dc,.fields (W5 (.ref t0)),sl⟩):YO P w H h a (XM a cls dc):=⟨⟨t0,sl,q⟩,⟨_,q⟩,fun h1 h2 ⟨t,sl,p⟩ k=>⟨t,sl,k _ p⟩⟩
end
section
variable {X:Cx} {pins:List (Addr×Obj)} {σ:St} {H:Hp} {s:Β} {e:Addr} {cls:Α} {M:Model} {A:η} {Q:Unit->Β->Prop} {EE:Α->Β->Prop} {dc:Option Addr}
theorem Inv.qu (I:Inv X pins σ H s) (hs:X.stack=X.env::X.outer) (hf:X.env.frame=some X.env.locals) (hex:X.ex=[]) (hA:A.frames=some (X.env::X.outer)) (he:H e=some (XM e cls dc)) (hnew:X.s₀.heap.get? e=none)
  (hQ:∀ h'' B,dH X.prog X.w X.outer X.H₀ X.s₀.heap e cls (del H e) h'' B->XB h'' e dc->Q () { s with heap:=h'' }):Μ M A (leaving X.env (.ref e)) Q EE s:=by
 have nx:∀ b:Addr,b∉X.ex:=by
  rw [hex];intro b z
  cases z
 have st:=I.stack;have sf:=I.gb;rw [hs] at st sf
 obtain ⟨⟨t0,sl,q0⟩,_,_⟩:=I.hok e _ he;have hne:∀ b o,X.s₀.heap.get? b=some o->b≠e:=fun b o q z=>by rw [z,hnew] at q;cases q
 have hd0:XB s.heap e dc:=⟨_,q0,rfl⟩;have Aj:(ic s.heap (e::frs (X.env::X.outer))).StaysIn s.heap:=fun b o q=>PySem.W.of_hideAll _ q
 refine aa (Wt (WT _ _) hd0 (wpAny_leaving_firstW (Q:=fun _ s'=>∃ h'',s'={ s with heap:=h'' }/\dH X.prog X.w X.outer X.H₀ X.s₀.heap e cls (del H e) h'' (ic s.heap (e::frs (X.env::X.outer)))) (a0 := .ref t0) (base:=ic s.heap (e::frs (X.env::X.outer))) hA (PySem.W.funFrames_hide st fun env he a ha=>bb _ (iq.mpr ⟨env,he,ha⟩)) hf q0 Aj (PySem.W.hideAll_none _ (ee ..)) rfl rfl rfl fun h'' hL=>⟨h'',rfl,?_⟩)) (fun _ s' z=>by
  obtain ⟨⟨h'',rfl,F⟩,d⟩:=z;exact hQ h'' _ F d) fun _ _ z=>z.1
 obtain ⟨k1,⟨_,_,k2⟩,k3,k4⟩:=hL;have vL:∀ b o,X.s₀.heap.get? b=some o->b∉frs X.outer->b∉e::frs (X.env::X.outer):=fun b o q nb z=>by
  rcases Ψ.mp z with z | z
  ·exact hne b o q z
  ·exact I.jk hf q nb z
 refine ⟨⟨_,k1,PySem.W.hideAll_none _ (ee ..),k2,k3⟩,fun b u q=>?_,fun b o q n nb=>dL _ (I.base.keep b o q n nb (nx b)) (vL b o q nb),fun b o q n hb=>?_,fun b o q nb=>?_,fun b o q n=>?_,fun b xs q=>?_,fun b o u q=>?_,fun b ps q=>?_⟩
 ·obtain ⟨nb,q⟩:=Yga q
  refine (I.hok b u q).stay (fun c v hc r=>dL _ r fun z=>?_) (fun c r=>?_) fun c xs r=>?_
  ·rcases Ψ.mp z with z | z
   ·subst z
    rcases hc with hc | hc
    ·exact nb hc.symm
    ·rw [he] at hc;cases hc
   ·have n:=sf c z
    rcases hc with rfl | hc
    ·rw [n] at q;cases q
    ·rw [n] at hc;cases hc
  ·rw [WW fun z=>by rw [z,he] at r;cases r];exact r
  ·rw [WW fun z=>by rw [z,he] at r;cases r];exact r
 ·obtain ⟨sl,e1⟩:=I.base.slot b o q n hb (nx b)
  obtain ⟨_,o',e',d⟩:=I.ok.dz.mem hb;rw [q] at e'
  cases e'
  obtain ⟨sl',e2⟩:=k4 b _ e1 d;exact ⟨sl',e2⟩
 ·obtain ⟨o',e1⟩:=I.base.there b o q (nx b)
  exact ⟨o',dL _ e1 (vL b o q nb)⟩
 ·rw [WW (hne b o q)];exact I.base.free b o q n (nx b)
 ·have z:=I.base.tups b xs q
  rw [WW fun y=>by rw [y,he] at z;cases z];exact z
 ·have z:=I.base.bF b o u q
  rw [WW fun y=>by rw [y,he] at z;cases z];exact z
 ·obtain ⟨m,z⟩:=I.base.cJ b ps q
  exact ⟨m,by rw [WW fun y=>by rw [y,he] at z;cases z];exact z⟩
end
def Mh (X:Cx) (E:XK):Prop:=∀ (pins:List (Addr×Obj)) (σ:St) (H:Hp) (s:Β) (e:Addr) (cls:Α) (dc:Option Addr),Inv X pins σ H s->H e=some (XM e cls dc)->(∀ o,X.s₀.heap.get? e=some o->e∈X.ex)->E cls dc (del H e)->X.xe (.ref e) s
section
variable {g:Gx} {N:List Str} {qual:Str} {st:Stmt} {f:Addr} {cdv:Α} {A:η} {outer:List Env} {s:Β} {H:Hp} {E:XK}
theorem Ygb:Mh (g.dX N qual st f cdv A outer s H E) E:=by
 intro pins σ H1 s1 e cls dc I he hn q;exact I.qu rfl rfl rfl I.ok.frames he (by
  cases hq:s.heap.get? e with
  | none=>exact hq
  | some o=>exact absurd (hn o hq) (by simp [Wo])) fun h'' B F hd=>⟨e,cls,del H1 e,B,dc,rfl,I.os,I.bare,F,hd,q⟩
end
def XY (a:Addr) (fs:List (Str×V)):HO := .ext fun h=>∃ mA,h.Ns1 a mA/\(∀ f,Wc (fs.lookup f) (mA f))/\io mA (fs.map (·.1))
structure Ak (K:Ι) (C f:Addr):Prop where
 own:W.iD K C WU "ValueError.__new__" f=true
 fn:W.isFn K (.ref f)=true
section
variable {X:Cx} {pins:List (Addr×Obj)} {σ:St} {H:Hp} {s:Β} {C f:Addr} {k:Nat} {fd:ba} {ps:List Str} {sp:Sp} {ds:List Α} {cN:List V} {E:XK} {CX:gk}
theorem Yec {Q:VK} {us:List Α} {vs:List V} (M:Ak X.K C f) (F:bG X.prog X.w X.K X.mg X.base CX k f fd ps sp) (hr:aO (k+1) X.A) (hb:Xh X.K fd ps ds) (hd:Yz cN ds)
  (hx:X1 CX X E) (I:Inv X pins σ H s) (r:Yz vs us) (hz:us.length<=sizeLine)
  (h:∀ x,H x=none->s.heap.get? x=none->sp (.ref x::(vs++cN)) (upd H x (XM x (.ref C) none)) (fun v H2=>v = .non/\Q (.ref x) H2) E) :
  Μ (Ξ X.prog X.w) X.A (call (.ref C) us) (EP X pins σ Q) X.xe s:=by
 obtain ⟨bm,ns,nm,qn,bs,hdd,sn,sub,ab,col,dd,k0,k1,k2,k3,k5,mN,hO,hN,hi,T⟩:=PySem.W.iV I.bf M.own;obtain ⟨oI,ho,hoc⟩:=ο.mp (beq_iff_eq.mp M.fn);obtain ⟨hh,gg,dr,tk,os⟩:=s;refine PySem.W.lN PySem.F.excBase_ValueError T hO hN hi (I.bf _ _ ho) hoc (fun h' x hm ex=>?_) hz;obtain ⟨t0,he,_,_⟩:=hm.there;have hq:=h x (I.hok.fresh (by rw [ex];exact lc _)) hm.new;have I2:Inv X pins σ (upd H x (XM x (.ref C) none)) ⟨h',gg,dr,tk,os⟩:=I.laid (t':=tk) (a:=x) (o:=XM x (.ref C) none) (fun b u q=>hm.keeps b u q) (by rw [ex];exact lc _) (Qc he);have r2:Yz (V.ref x::(vs++cN)) (ζ x::(us++ds)) := .cons rfl (r.append hd);have hl:(ζ x::us++ds).length=ps.length:=by
  have e:=r2.length;rw [F.len _ _ _ _ hq] at e
  exact e.symm
 refine iE (fF (F.run _ X.stack _ _ ⟨ζ x::us,[]⟩ (ζ x::(us++ds)) _ _ E (hr.make C us []) (I2.env0.make C us []) (hb _ (ζ x::us) I2.bf hl) r2 hq) fun r s' hq'=>?_)
 cases r with
 | error e=>exact hx pins σ _ _ e s' I2 hq'
 | ok fl =>
  cases fl with
  | ret u =>
   obtain ⟨v,H',I3,rv,ev,q3⟩:=I2.after hq';subst ev;exact ⟨rv,⟨V.ref x,H',I3,rfl,q3⟩⟩
  | next=>exact az hq'
  | brk=>exact az hq'
  | cont=>exact az hq'
end
structure m7 (K:Ι) (C C':Addr):Prop where
 hd:kq K C=true
 ln:W.jy K C C'=true
 sa:bS K (.ref C) "__setattr__"=some (some (.builtin "object.__setattr__"))
section
variable {P:Ρ} {w:Ω} {H:Hp} {h:Heap} {a:Addr} {fs:List (Str×V)} {mA:Str->Option Α}
theorem Mi (n:h.Ns1 a mA) (r:∀ f,Wc (fs.lookup f) (mA f)) (wi:io mA (fs.map (·.1))):YO P w H h a (XY a fs):=by
 obtain ⟨od,es,ep,e,c⟩:=id n;exact ⟨⟨mA,n,r,wi⟩,⟨od,e⟩,fun h1 h2 ⟨mB,⟨od,es,ep,e,c⟩,r,wi⟩ k=>⟨mB,⟨od,es,ep,k _ e,c⟩,r,wi⟩⟩
end
section
variable {X:Cx} {pins:List (Addr×Obj)} {σ:St} {H:Hp} {s:Β} {C C' a d:Addr} {f:Str} {y:V} {u:Α} {Q:Unit->Β->Prop} {A:η} {E:Α->Β->Prop} {fs:List (Str×V)}
theorem Yed (I:Inv X pins σ H s) (c:m7 X.K C C') (na:bS X.K (.ref C) f=some none) (e:H a=some (XM a (.ref C) none)) (ry:YH y u)
  (h:∀ d s',H d=none->d≠a->Inv X pins σ (upd (upd H d (XY d [(f,y)])) a (XM a (.ref C) (some d))) s'->Q () s'):Μ (Ξ X.prog X.w) A (setAttr (.ref a) f u) Q E s:=by
 obtain ⟨⟨t0,sl,q0⟩,_,_⟩:=I.hok a _ e;refine W.rG I.bf q0 rfl rfl rfl c.hd c.ln na c.sa fun h' n1 ha hk=>?_
 have hfr:H s.heap.objs.size=none:=I.hok.fresh (Ν _);have hne:s.heap.objs.size≠a:=fun z=>by rw [z,e] at hfr;cases hfr
 have ned:∀ b o,s.heap.get? b=some o->b≠s.heap.objs.size:=fun b o q=>ρ (Φ q)
 have Al:∀ b,H b=none->b≠a:=fun b q z=>by rw [z,e] at q;cases q
 have oth:∀ b o,H b=some o->b≠a->(upd (upd H s.heap.objs.size (XY s.heap.objs.size [(f,y)])) a (XM a (.ref C) (some s.heap.objs.size))) b=some o:=fun b o q n=>by
  rw [Ye n,Ye (Yj q hfr)];exact q
 refine h _ _ hfr hne (I.un (t':=s.toks+2) ⟨fun b o q n _ _=>hk b o (Al b n) q,fun b o q n _ _=>⟨o.slots,hk b o (Al b n) q⟩,fun b o q n _=>?_,fun b o q _=>?_,fun b xs q=>?_,fun b o u q=>?_,fun b ps q=>?_⟩ fun b o q=>?_)
 ·rw [Ye (Al b n),Ye (ned b o q)];exact n
 ·by_cases z:b=a
  ·subst z;exact ⟨_,ha⟩
  ·exact ⟨o,hk b o z q⟩
 ·exact oth b _ q fun z=>by rw [z,e] at q;cases q
 ·exact oth b _ q fun z=>by rw [z,e] at q;cases q
 ·exact ⟨#[],by rw [Array.append_empty];exact oth b _ q fun z=>by rw [z,e] at q;cases q⟩
 ·by_cases z:b=a
  ·subst z
   rw [Yb] at q
   cases q
   exact Qc ha
  ·rw [Ye z] at q
   by_cases z2:b=s.heap.objs.size
   ·subst z2
    rw [Yb] at q
    cases q
    refine Mi n1 (fun g=>?_) fun g hg=>?_
    ·by_cases eg:g=f
     ·subst eg
      rw [if_pos rfl]
      show Wc (bn g [(g,y)]) _
      simp only [bn,beq_self_eq_true];exact ry
     ·rw [if_neg eg]
      have:(g==f)=false:=by simp [eg]
      simp only [bn,this];exact dv
    ·by_cases eg:g=f
     ·subst eg;simp
     ·rw [if_neg eg] at hg;exact absurd rfl hg
   ·rw [Ye z2] at q
    refine (I.hok b o q).stay (fun c v hc r=>hk c v (fun zc=>?_) r) (fun c r=>?_) fun c xs r=>?_
    ·subst zc
     rcases hc with hc | hc
     ·exact z hc.symm
     ·rw [e] at hc;cases hc
    ·exact oth c _ r fun zc=>by rw [zc,e] at r;cases r
    ·exact oth c _ r fun zc=>by rw [zc,e] at r;cases r
theorem Ydd (I:Inv X pins σ H s) (c:m7 X.K C C') (na:bS X.K (.ref C) f=some none) (e:H a=some (XM a (.ref C) (some d))) (ed:H d=some (XY d fs)) (hl:fs.length<1000) (hne:d≠a) (ry:YH y u)
  (h:∀ s',Inv X pins σ (upd H d (XY d (Y5 f y fs))) s'->Q () s'):Μ (Ξ X.prog X.w) A (setAttr (.ref a) f u) Q E s:=by
 obtain ⟨⟨t0,sl,q0⟩,_,_⟩:=I.hok a _ e;obtain ⟨⟨mA,n1,r,wi⟩,_,_⟩:=I.hok d _ ed;have hz:(fs.map (·.1)).length<=sizeLine:=by rw [Θ,kn];omega
 refine W.qt I.bf q0 rfl rfl rfl n1 hne c.hd c.ln na c.sa wi hz fun h' n2 sb=>?_
 obtain ⟨od,es,ep,eo,co⟩:=id n2;refine h _ (I.write (t':=s.toks+2) (x:=d) (e:=d) (by rw [ed];exact dv) (.inl rfl) (fun b q hb z=>(sb.2 b hb).trans z) ⟨od,eo⟩ (Mi n2 (fun g=>?_) fun g hg=>?_))
 ·rw [Va]
  by_cases q:g=f
  ·rw [if_pos q,if_pos q];exact ry
  ·rw [if_neg q,if_neg q];exact r g
 ·by_cases q:g=f
  ·rw [q];exact (WF f y fs).1
  ·refine (WF f y fs).2 g (wi g fun z=>hg ?_)
   show (if g=f then some u else mA g)=none
   rw [if_neg q];exact z
end
structure mH (g:Gx) (x:Str) (B:Addr):Prop where
 bound:g.mg x=some (.ref B)
 ga:la g.K (.ref B) "__getattribute__"=some (some (.builtin "type.__getattribute__"))
 rd:W.readsIn g.K B (.type "type")=true
 at_:W.findCls g.K (.ref B) (.type "type") "__init__"=some (.val (.builtin "ValueError.__init__"))
def Mj (C:Addr) (t:TA):TE:=fun σ H Q=>t σ H fun vs H1=>∃ a m dc,vs=[.ref a,m]/\H1 a=some (XM a (.ref C) dc)/\Q .non H1
def Ml (C:Addr) (ta tv:TE) (f:Str):TS:=fun D σ H=>tv σ H fun y H1=>ta σ H1 fun x H2=>∃ a,x = .ref a/\((H2 a=some (XM a (.ref C) none)/\∀ d,H2 d=none->d≠a->D.nx σ (upd (upd H2 d (XY d [(f,y)])) a (XM a (.ref C) (some d)))) \/
 ∃ d fs,H2 a=some (XM a (.ref C) (some d))/\H2 d=some (XY d fs)/\fs.length<1000/\d≠a/\D.nx σ (upd H2 d (XY d (Y5 f y fs))))
def Mp (C:Addr) (ta:TE) (f:Str):TE:=fun σ H Q=>ta σ H fun x H1=>∃ a d fs v,x = .ref a/\H1 a=some (XX a (.ref C) (some d))/\H1 d=some (XY d fs)/\fs.lookup f=some v/\Q v H1
def rH (C:Addr) (fs:List Str):Sp:=fun vs H Q _=>∃ e us,vs = .ref e::us/\us.length=fs.length/\H e=some (XM e (.ref C) none)/\∀ d,H d=none->d≠e->Q .non (upd (upd H d (XY d (fs.zip us))) e (XM e (.ref C) (some d)))
def Gx.jN (g:Gx) (x:Str) (C:Addr) (qual:Str) (st:Stmt) (ps:List Str):Prop:=∃ f fd,gU g.K "__init__" qual st f fd/\Xh g.K fd ps []/\Ak g.K C f/\g.mg x=some (.ref C)
def Gx.vM (g:Gx) (x:Str) (C:Addr) (ps fs:List Str):Prop:=∃ f fd,bG g.P g.w g.K g.mg g.base dG 1 f fd ps (rH C fs)/\Xh g.K fd ps []/\Ak g.K C f/\g.mg x=some (.ref C)
theorem Gx.jN.maX {g:Gx} {x qual:Str} {C:Addr} {st:Stmt} {N ps fs:List Str} (R:g.jN x C qual st ps) (S:ak N ps (Yi st)) (len:∀ vs H Q E,rH C fs vs H Q E->vs.length=ps.length) (b:VR g 0 N qual st (rH C fs)):g.vM x C ps fs:=by
 obtain ⟨f,fd,F,bd,hm,hg⟩:=R;exact ⟨f,fd,F.ok S len fun cdv A outer s H vs Q E hr h=>b f cdv A outer s H vs Q E hr h,bd,hm,hg⟩
theorem Yfy {K:Ι} {h:Heap} {mg:Str->Option Α} {f C:Addr} {x qual:Str} {st:Stmt} {oc kV dc pm cd ct:Α} {od an:Option Addr} {sl:Array (Option Α)} (X:K.In h) (G:h.Ns aw mg) (ps:List Str) (aC:js K aw x=some (some (.ref C)))
  (a:PySem.W.findIn K (.ref C) "__init__"=some (some (.ref f))) (o:PySem.W.iD K C WU "ValueError.__new__" f=true) (i:PySem.W.isFn K (.ref f)=true) (l:K.lookup f=some ⟨oc,od,.func (cr "__init__" qual (Y9 st) (YV st) (Yi st) .none kV dc pm an cd ct),sl⟩) (c:gf K cd qual=true) (k:dP K (.ref f)=true)
  (b:∀ (kV doc pm:Α) (an:Option Addr) (cdv ct:Α) (us:List Α),us.length=ps.length->gi (cr "__init__" qual (Y9 st) (YV st) (Yi st) .none kV doc pm an cdv ct) ⟨us,[]⟩=pure (ps.zip us)) :
  ∀ P w base,(Gx.mk P w K mg base).jN x C qual st ps:=fun P w base =>
 have F:=WR (st:=st) l c k
 ⟨f,_,F,F.binds b,⟨o,i⟩,gV X G aC⟩
theorem Gx.jN.own {g:Gx} {x qual:Str} {C:Addr} {st:Stmt} {ps:List Str} (R:g.jN x C qual st ps):∃ f,W.iD g.K C WU "ValueError.__new__" f=true:=by
 obtain ⟨f,_,_,_,M,_⟩:=R;exact ⟨f,M.own⟩
section
variable {g:Gx} {X:Cx} {k j:Nat} {x m f:Str} {ps:List Str} {sp:Sp} {e o value:Expr} {es:List Expr} {t:TA} {ta tv:TE} {p pos apos pos' np cpos:Pos} {C C' B:Addr} {E:XK} {fs:List Str}
theorem Yee {pl:Sem Bool} (b:mH g x B) (M:∃ fI,W.iD g.K C WU "ValueError.__new__" fI=true) (ha:PA X (e::es) t) (hX:X.gx=g:=by rfl) (hg:Gl X x:=by rfl) (hdb:(x==("__debug__":Str))=false:=by decide)
  (hst:Τ (e::es) X.env=(false,eval e X.env)::Τ es X.env:=by rfl) (hpl:(be pos (Τ es X.env)).any (·.1)=false:=by rfl)
  (ht:eval (.Call (.Attribute (.Name x p) "__init__" apos) (e::es) [] pos) X.env=(do
   let ov <- eval (.Name x p) X.env
   standAt apos.atName
   let (f,first) <- holding [ov] (i9 ov "__init__" pl)
   kP pos f first (be pos (Τ (e::es) X.env)) (kQ pos (i3 [] X.env))):=by rfl):PE X (.Call (.Attribute (.Name x p) "__init__" apos) (e::es) [] pos) (Mj C t):=by
 subst hX;obtain ⟨fI,M⟩:=M;intro pins s σ H Q I h;refine W.methodCall_KW (pl:=pl) (aG (Xm (g:=X.gx) (pos:=p) b.bound rfl hg hdb pins s σ H (fun v H1=>v = .ref B/\H1=H) I ⟨rfl,rfl⟩) fun u s1 ⟨v,H1,I1,rv,e1,e2⟩=>?_) ht;subst e1 e2;obtain rfl:u=ζ B:=rv;refine W.method_cls I1.bf b.ga (W.cls_value I1.bf b.rd b.at_ rfl ?_);have I2:=I1.tok (s1.toks+1);refine PyProof.Rows.callWith_builtin1 (aG (ha pos pins _ σ H1 _ I2 h) fun us s2 ⟨vs,H2,I3,r,a,mm,dc,ev,he,q⟩=>?_) hst hpl;subst ev;obtain ⟨u1,u2,rfl,r1,r2⟩:=UA r;obtain rfl:u1=ζ a:=r1;obtain ⟨bm,ns,nm,qn,bs,hdd,sn,sub,ab,col,dd,k0,k1,k2,k3,k5,mN,hO,hN,hi,T⟩:=W.iV I3.bf M;obtain ⟨⟨t0,sl,q0⟩,_,_⟩:=I3.hok a _ he;obtain ⟨hh,gg,dr,tk,os⟩:=s2;refine W.lO F.excBase_ValueError T hO q0 fun h' T' e1 hk=>⟨.non,H2,?_,rfl,q⟩
 have I4:=I3.write (t':=tk) (h':=h') (x:=a) (e:=a) (o:=XM a (.ref C) dc) (by rw [he];exact dv) (.inl rfl) (fun b u hb z=>hk b u hb z) ⟨_,e1⟩ (Qc e1);rw [Yf0 he] at I4
 exact I4
theorem Yfz (c:m7 g.K C C') (na:bS g.K (.ref C) f=some none) (ha:PE X o ta) (hv:PE X value tv) (hX:X.gx=g:=by rfl) (hs:kr value (some (.Attribute o f pos')) pos.line X.env=pure false:=by rfl):PS X (.Assign [.Attribute o f pos'] value pos) (Ml C ta tv f):=by
 subst hX;intro pins s σ H D I h;refine plainObj_wpAny_Assign_Attribute (aG (hv pins s σ H _ I h) fun u s1 ⟨y,H1,I1,ry,q⟩=>aG (ha pins s1 σ H1 _ I1 q) fun ov s2 ⟨x,H2,I2,rx,a,ex,q2⟩=>?_) hs;subst ex;obtain rfl:ov=ζ a:=rx;rcases q2 with ⟨e0,q2⟩ | ⟨d,fs,e0,e1,l,ne,q2⟩
 ·exact Yed I2 c na e0 ry fun d s3 n1 n2 I3=>⟨σ,_,I3,q2 d n1 n2⟩
 ·exact Ydd I2 c na e0 e1 l ne ry fun s3 I3=>⟨σ,_,I3,q2⟩
theorem Iu (T:fD g.K C) (na:bS g.K (.ref C) f=some none) (he:PE X e ta) (hX:X.gx=g) (hb:i6 e f X.env (eval e X.env)=eval e X.env):PE X (.Attribute e f pos) (Mp C ta f):=by
 subst hX;intro pins s σ H Q I h;refine JV hb (aG (he pins s σ H _ I h) fun u s1 ⟨x,H1,I1,rx,a,d,fs,v,ex,ea,ed,l,q⟩=>?_);subst ex;obtain rfl:u=ζ a:=rx;obtain ⟨⟨o,vs,h1,h2,h3,h4⟩,_⟩:=(show YO X.prog X.w H1 s1.heap a (XX a (.ref C) (some d)) from I1.hok a _ ea);obtain ⟨⟨mA,n1,r,wi⟩,_⟩:=(show YO X.prog X.w H1 s1.heap d (XY d fs) from I1.hok d _ ed);obtain ⟨u,hu,ru⟩:=Wc.some_of (v:=v) (o:=mA f) (by rw [<- l];exact r f);obtain ⟨hh,gg,dr,tk,os⟩:=s1;exact W.qp I1.bf T.hd h1 h2 (fun c z=>by rw [h3] at z;cases z) h4 n1.ns hu (W.handedOut_of (Qj ru)) T.hb na T.hga T.hgt ⟨v,H1,I1.tok _,ru,q⟩
theorem QI {K:Ι} (T:fD K C) (h:X.K=K:=by rfl):XC X (.builtin "isinstance") (fun xs H Q=>∃ a c cv b dc,xs=[.ref a,c]/\Vu c=some cv/\H a=some (XX a (.ref C) dc)/\γ K (.ref C) cv=some b/\Q (.bl b) H):=by
 subst h;intro pins s σ H xs us Q I r h;obtain ⟨a,c,cv,b,dc,rfl,ec,ha,e,q⟩:=h;obtain ⟨u,w',rfl,ru,jQ⟩:=UA r;have ew:w'=cv:=by
  cases c with
  | ty n=>cases (show w'=fc n from jQ);simpa [Vu] using ec
  | ref a=>cases (show w'=ζ a from jQ);simpa [Vu] using ec
  | _=>simp [Vu] at ec
 subst ew
 cases (show u=ζ a from ru)
 obtain ⟨⟨o,vs,h1,h2,_⟩,_⟩:=(show YO X.prog X.w H s.heap a (XX a (.ref C) dc) from I.hok a _ ha);exact d5 (W.uQ T.hd T.hm T.hb T.ha T.hga T.hgt) I.bf ⟨o,h1,h2⟩ e (fun z=>nomatch z) fun tk=>⟨.bl b,H,I.tok tk,rfl,q⟩
def Mq (C:Addr) (fs:List Str) (E:XK) (t:TA):TS:=fun _ σ H=>t σ H fun vs H1=>vs.length=fs.length/\vs.length<=1000/\∀ d,H1 d=none->E (.ref C) (some d) (upd H1 d (XY d (fs.zip vs)))
theorem Yde (F:g.vM x C ps fs) (hr:aO k X.A) (hR:Mh X E) (ha:PA X (e::es) t) (hj:2<=k) (hc:X.calm=true) (hX:X.gx=g) (hg:Gl X x) (hdb:(x==("__debug__":Str))=false)
  (he:Τ (e::es) X.env=(false,eval e X.env)::Τ es X.env) (hpl:(be cpos (Τ es X.env)).any (·.1)=false) :
  PS X (.Raise (some (.Call (.Name x np) (e::es) [] cpos)) none pos) (Mq C fs E t):=by
 subst hX;obtain ⟨f,fd,F,bd,M,hm⟩:=F;intro pins s σ H D I h;obtain ⟨bm,ns,nm,qn,bs,hd,sn,sub,ab,col,dd,k0,k1,k2,k3,k5,mN,hO,hN,hi,T⟩:=PySem.W.iV I.mod.jc M.own;refine PySem.W.kO (C:=C) (nm:=nm) (q:=qn) (N:=ns) (bs:=bs) (bm:=bm) (hdct:=hd) (sn:=sn) (sub:=sub) (ab:=ab) (col:=col) (dd:=dd) (k0:=k0) (k1:=k1) (k2:=k2) (k3:=k3) (k5:=k5) (newId:="ValueError.__new__")
  (T.hasType PySem.F.excBase_ValueError.hasBase) (I.ok.hd hc) ?_ (X8 I hg hm ⟨rfl,?_⟩ hdb)
 ·rw [he]
  show (false||(be cpos (Τ es X.env)).any (·.1))=false
  rw [hpl];rfl
 ·have a1:=ha cpos pins s σ H _ I h
  rw [he] at a1 ⊢
  refine Calls.evalArgs_plain (aa a1 (fun us s2 hz=>?_) fun _ _ y=>y);obtain ⟨vs,H2,I2,r,q0,q1,q2⟩:=hz;refine ⟨rfl,I2.bk _ _ hO,aa (Yec (Q:=fun v H3=>∃ e dc,v = .ref e/\(∀ o,X.s₀.heap.get? e=some o->e∈X.ex)/\H3 e=some (XM e (.ref C) dc)/\E (.ref C) dc (del H3 e)) (cN:=[]) M F (hr.mono hj) bd .nil W3 I2 r (by rw [<- r.length,kn];omega) fun e n1 n2=>?_) (fun v s3 z=>?_) fun _ _ y=>y⟩
  ·have hs0:∀ o,X.s₀.heap.get? e=some o->e∈X.ex:=fun o hq=>Classical.byContradiction fun z=>by
    obtain ⟨o',z⟩:=I2.base.there e o hq z;rw [n2] at z
    cases z
   refine ⟨e,vs,by rw [bi],q0,Yb,fun d m1 m2=>⟨rfl,e,some d,rfl,hs0,Yb,?_⟩⟩;rw [Ye m2] at m1
   have:=q2 d m1;refine Eq.mp (congrArg (E (.ref C) (some d)) (funext fun b=>?_)) this;by_cases hb:b=e
   ·subst hb
    rw [Yeb,Ye (ψ m2)];exact n1
   ·rw [WW hb,Ye hb]
    by_cases hbd:b=d
    ·subst hbd;rw [Yb,Yb]
    ·rw [Ye hbd,Ye hbd,Ye hb]
  ·obtain ⟨v',H3,I3,rv,e,dc,ev,hs0,Mr,q3⟩:=z
   subst ev;obtain rfl:v=ζ e:=rv;obtain ⟨⟨t0,sl,q5⟩,_,_⟩:=I3.hok e _ Mr;exact ⟨e,dc,t0,sl,rfl,I3.bk _ _ hO,q5,hR pins σ H3 s3 e _ dc I3 Mr hs0 q3⟩
end
theorem YfA {C:Addr} {fs ps:List Str} {vs:List V} {H:Hp} {Q:VK} {E:XK} (h:rH C fs vs H Q E) (hp:ps.length=fs.length+1:=by rfl):vs.length=ps.length:=by
 obtain ⟨e,us,rfl,l,_⟩:=h;rw [hp,ai,l]
theorem Iv {C:Addr} {f n0 n1 m:Str} {vs:List V} {H:Hp} {Q:VK} {E:XK} (h:rH C [f] vs H Q E) :
  Uh (QL (Mj C (UC (Vs 0) (UC (tC (.str m)) Q1)))) (Ml C (Vs 0) (Vs 1) f) { nx:=fun _ H'=>Q .non H',rt:=Q } (Xw [n0,n1] vs) H:=by
 obtain ⟨e,us,rfl,l,he,q⟩:=h;obtain ⟨u,rfl⟩:∃ u,us=[u]:=by
  match us,l with
  | [u],_=>exact ⟨u,rfl⟩
 refine ⟨e,_,_,rfl,he,?_⟩;refine ⟨e,rfl,.inl ⟨he,fun d m1 m2=>q d m1 m2⟩⟩
end L2
namespace L2
open PySem PySem.Spec PyProof.Rows
theorem Yef {K:Ι} {h:Heap} {mg:Str->Option Α} {x:Str} {B:Addr} (X:K.In h) (G:h.Ns aw mg) (a:W.nsIn K aw x=some (some (.ref B))) (ga:la K (.ref B) "__getattribute__"=some (some (.builtin "type.__getattribute__"))) (rd:W.readsIn K B (.type "type")=true) (at_:W.findCls K (.ref B) (.type "type") "__init__"=some (.val (.builtin "ValueError.__init__"))) :
  ∀ P w base,mH (Gx.mk P w K mg base) x B:=fun _ _ _=>⟨W.mg_of X G a,ga,rd,at_⟩
structure fG (H Hz:Hp) (h:Heap) (cs:List Addr):Prop where
 one:∀ b∈cs,∃ o u,Hz b=some (.cM o u)/\h.get? b=some o/\H b=none
 oth:∀ b,b∉cs->Hz b=H b
section
variable {P:Ρ} {w:Ω} {H Hz H':Hp} {h h' B:Heap} {cs fs:List Addr}
theorem fG.out (L:fG H Hz h cs) {b:Addr} {o:HO} (e:H b=some o):b∉cs:=fun z=>by
 obtain ⟨_,_,_,_,n⟩:=L.one b z;rw [n] at e
 cases e
theorem fG.get (L:fG H Hz h cs) {b:Addr} {o:HO} (e:H b=some o):Hz b=some o:=by rw [L.oth b (L.out e)];exact e
theorem Ur (x:bD P w H' h') (z:∀ b∈cs,∃ o u,H' b=some (.cM o u)):bD P w (off H' cs) h':=fun b o e=>by
 obtain ⟨e1,e2⟩:=VU e;refine (x b o e1).stay (fun _ _ _ q=>q) (fun c q=>?_) fun c xs q=>?_
 ·rw [YZ fun hc=>by obtain ⟨_,_,y⟩:=z c hc;rw [y] at q;cases q]
  exact q
 ·rw [YZ fun hc=>by obtain ⟨_,_,y⟩:=z c hc;rw [y] at q;cases q]
  exact q
theorem fG.un (L:fG H Hz h cs) (u:Un fs [] Hz H' h h') (hok:bD P w H' h') (nf:∀ b∈cs,b∉fs):Un fs [] H (off H' cs) h h':=by
 have z:∀ {b:Addr} {o:HO},H b=some o->b∉cs:=fun e=>L.out e
 refine ⟨fun b o e n hf hx=>?_,fun b o e n hf hx=>?_,fun b o e n hx=>?_,u.there,fun b xs e=>?_,fun b o x e=>?_,fun b ps e=>?_⟩
 ·by_cases hb:b∈cs
  ·obtain ⟨o1,u1,y1,y2,_⟩:=L.one b hb
   rw [e] at y2
   cases y2
   exact (hok b _ (u.bF b _ _ y1)).1
  ·exact u.keep b o e ((L.oth b hb).trans n) hf hx
 ·exact u.slot b o e ((L.oth b fun hb=>nf b hb hf).trans n) hf hx
 ·by_cases hb:b∈cs
  ·exact Vm hb
  ·rw [YZ hb]
   exact u.free b o e ((L.oth b hb).trans n) hx
 ·rw [YZ (z e)]
  exact u.tups b xs (L.get e)
 ·rw [YZ (z e)]
  exact u.bF b o x (L.get e)
 ·rw [YZ (z e)]
  exact u.cJ b ps (L.get e)
theorem fG.behind (L:fG H Hz h cs) (u:Un fs [] Hz H' h h'):∀ b∈cs,∃ o v,H' b=some (.cM o v):=fun b hb=>by
 obtain ⟨o1,u1,y1,_⟩:=L.one b hb;exact ⟨o1,u1,u.bF b _ _ y1⟩
theorem fG.fly {l:List Env} {e:Addr} {cls:Α} (L:fG H Hz h cs) (F:dH P w l Hz h e cls H' h' B) (nf:∀ b∈cs,b∉frs l):dH P w l H h e cls (off H' cs) h' B:=by
 have z:∀ {b:Addr} {o:HO},H b=some o->b∉cs:=fun e=>L.out e
 have bh:∀ b∈cs,∃ o v,H' b=some (.cM o v):=fun b hb=>by
  obtain ⟨o1,u1,y1,_⟩:=L.one b hb;exact ⟨o1,u1,F.bF b _ _ y1⟩
 refine ⟨F.fl,Ur F.hok bh,fun b o q n hf=>?_,fun b o q n hf=>F.slot b o q ((L.oth b fun hb=>nf b hb hf).trans n) hf,F.al,fun b o q n=>?_,fun b xs q=>?_,fun b o x q=>?_,fun b ps q=>?_⟩
 ·by_cases hb:b∈cs
  ·obtain ⟨o1,u1,y1,y2,_⟩:=L.one b hb
   rw [q] at y2
   cases y2
   exact (F.hok b _ (F.bF b _ _ y1)).1
  ·exact F.keep b o q ((L.oth b hb).trans n) hf
 ·by_cases hb:b∈cs
  ·exact Vm hb
  ·rw [YZ hb]
   exact F.free b o q ((L.oth b hb).trans n)
 ·rw [YZ (z q)]
  exact F.tups b xs (L.get q)
 ·rw [YZ (z q)]
  exact F.bF b o x (L.get q)
 ·rw [YZ (z q)]
  exact F.cJ b ps (L.get q)
end
def W6 (H Hz:Hp) (l:YB):Prop:=(∀ p∈l,∃ o,Hz p.2.1=some (.cM o (WM p.2.1 p.2.2))/\H p.2.1=none)/\∀ b,b∉l.as->Hz b=H b
def Ww (H:Hp) (h:Heap):YB->Hp
 | []=>H
 | p::l=>match h.get? p.2.1 with
  | some o=>upd (Ww H h l) p.2.1 (.cM o (WM p.2.1 p.2.2))
  | none=>Ww H h l
section
variable {X:Cx} {pins:List (Addr×Obj)} {σ:St} {H:Hp} {s:Β}
theorem WX {h:Heap} {b:Addr}:∀ {l:YB},b∉l.as->Ww H h l b=H b
 | [],_=>rfl
 | p::l,hb=>by
  have h1:b≠p.2.1:=fun z=>hb (by rw [z];exact .head _)
  have h2:b∉YB.as l:=fun z=>hb (.tail _ z)
  cases e:h.get? p.2.1 with
  | some o =>
   have hz:Ww H h (p::l)=upd (Ww H h l) p.2.1 (.cM o (WM p.2.1 p.2.2)):=by
    show (match h.get? p.2.1 with | some o=>_ | none=>_)=_
    rw [e]
   rw [hz,Ye h1];exact WX h2
  | none =>
   have hz:Ww H h (p::l)=Ww H h l:=by
    show (match h.get? p.2.1 with | some o=>_ | none=>_)=_
    rw [e]
   rw [hz];exact WX h2
theorem Ms (I:Inv X pins σ H s) {l:YB} (hc:XL X σ l) {p:Str×Addr×V} (hp:p∈l):H p.2.1=none/\∃ o u,s.heap.get? p.2.1=some o/\YH p.2.2 u/\s.heap.IsCell p.2.1 (some u):=by
 obtain ⟨i,h1,h2,h3,h4⟩:=hc.2 p hp;obtain ⟨m,hn,hl⟩:=I.loc;obtain ⟨u,r,lk⟩:=hl i p.1 p.2.2 h1 h2 (.inr (.inl h3));rcases lk with ⟨k,_⟩ | ⟨_,c,hc,hcell⟩
 ·rw [h3] at k;cases k
 ·rw [h4] at hc
  cases hc
  obtain ⟨o,e1,e2⟩:=id hcell;exact ⟨I.aZ p.1 p.2.1 h4,o,u,e1,r,hcell⟩
theorem Mt (I:Inv X pins σ H s):∀ {l:YB},XL X σ l->W6 H (Ww H s.heap l) l/\fG H (Ww H s.heap l) s.heap l.as/\bD X.prog X.w (Ww H s.heap l) s.heap
 | [],_=>⟨⟨(fun p hp=>nomatch hp),fun _ _=>rfl⟩,⟨(fun b hb=>nomatch hb),fun _ _=>rfl⟩,I.hok⟩
 | p::l,h=>by
  have nd':=bg.mp h.1;obtain ⟨⟨a1,a2⟩,⟨b1,b2⟩,ok⟩:=Mt I (l:=l) ⟨nd'.2,fun q hq=>h.2 q (.tail _ hq)⟩;obtain ⟨n,o,u,e,r,hcell⟩:=Ms I h (.head _);have hz:Ww H s.heap (p::l)=upd (Ww H s.heap l) p.2.1 (.cM o (WM p.2.1 p.2.2)):=by
   show (match s.heap.get? p.2.1 with | some o=>_ | none=>_)=_
   rw [e]
  have hne:∀ q∈l,q.2.1≠p.2.1:=fun q hq z=>nd'.1 (by
   have:q.2.1∈YB.as l:=di (f:=fun p:Str×Addr×V=>p.2.1) hq;rw [z] at this
   exact this)
  rw [hz];refine ⟨⟨fun q hq=>?_,fun b hb=>?_⟩,⟨fun b hb=>?_,fun b hb=>?_⟩,ok.track ((WX nd'.1).trans n) ⟨e,Uq r hcell⟩⟩
  ·rcases Ψ.mp hq with rfl | hq
   ·exact ⟨o,Yb,n⟩
   ·obtain ⟨o',y1,y2⟩:=a1 q hq
    exact ⟨o',by rw [Ye (hne q hq)];exact y1,y2⟩
  ·rw [Ye fun z=>hb (by rw [z];exact .head _)]
   exact a2 b fun z=>hb (.tail _ z)
  ·by_cases z:b=p.2.1
   ·subst z
    exact ⟨o,_,Yb,e,n⟩
   ·rw [Ye z]
    have:b∈YB.as l:=by
     rcases Ψ.mp (show b∈p.2.1::YB.as l from hb) with y | y
     ·exact absurd y z
     ·exact y
    exact b1 b this
  ·rw [Ye fun z=>hb (by rw [z];exact .head _)]
   exact b2 b fun z=>hb (.tail _ z)
theorem Mu (I:Inv X pins σ H s) {l:YB} (hc:XL X σ l) (hfn:∀ x,X.fn x=true) {b:Addr} (hb:b∈l.as):X.s₀.heap.objs.size<=b/\b≠X.env.locals:=by
 obtain ⟨p,hp,rfl⟩:=Xf hb;obtain ⟨i,h1,h2,h3,h4⟩:=hc.2 p hp;exact ⟨I.ok.cab _ _ (hfn _) h4,I.jd _ _ h4⟩
theorem YfB (I:Inv X pins σ H s) (hs:X.stack=X.env::X.outer) (hf:X.env.frame=some X.env.locals) {l:YB} (hc:XL X σ l) (hfn:∀ x,X.fn x=true):∀ b∈l.as,b∉frs X.stack:=fun b hb z=>by
 obtain ⟨n1,n2⟩:=Mu I hc hfn hb;rw [hs] at z
 unfold frs at z;rw [cS,hf] at z
 rcases Ψ.mp z with z | z
 ·exact n2 z
 ·obtain ⟨_,o,e,_⟩:=I.ok.dz.mem z
  exact absurd (χ (Φ e) n1) (dC _)
end
section
variable {X:Cx} {CX:gk} {k:Nat} {f:Addr} {fd:ba} {ps:List Str} {sp:Sp} {E:XK} {pins:List (Addr×Obj)} {σ:St} {H:Hp} {s:Β} {Q:VK} {us:List Α} {vs:List V} {l:YB}
theorem Yeg (F:bG X.prog X.w X.K X.mg X.base CX k f fd ps sp) (hr:aO k X.A) (hb:Xh X.K fd ps []) (hs:X.stack=X.env::X.outer) (hf:X.env.frame=some X.env.locals) (hfn:∀ x,X.fn x=true)
  (hx:∀ Hz e s',fG H Hz s.heap l.as->(∀ b∈l.as,b∉frs X.stack)->CX X.stack Hz s (fun c d H'=>E c d (off H' l.as)) e s'->X.xe e s')
  (I:Inv X pins σ H s) (hc:XL X σ l) (r:Yz vs us) (h:∀ Hz,W6 H Hz l->sp vs Hz (fun v H'=>Q v (off H' l.as)) fun c d H'=>E c d (off H' l.as)):Μ (Ξ X.prog X.w) X.A (call (.ref f) us) (EP X pins σ Q) X.xe s:=by
 obtain ⟨L1,L2,ok⟩:=Mt I hc;have nf:=YfB I hs hf hc hfn;have hsp:=h _ L1;have hl:us.length=ps.length:=by rw [<- r.length];exact F.len _ _ _ _ hsp
 have e0:fQ X.prog X.w X.K X.mg X.base X.A X.stack s (Ww H s.heap l):=by
  have e:=I.env0;refine ⟨e.frames,e.mod,fun b o q=>⟨(e.bs b o q).1,?_⟩,e.gR,e.dz,fun b q=>?_,ok,e.bare⟩
  ·rw [WX fun z=>?_]
   ·exact (e.bs b o q).2
   ·have n1:=(Mu I hc hfn z).1
    have:=I.ok.gR;exact absurd (χ (Φ q) (ap this n1)) (dC _)
  ·rw [WX fun z=>nf b z q]
   exact e.iz b q
 refine iE (fF (F.run X.A X.stack s _ ⟨us,[]⟩ us vs _ _ hr e0 (by have:=hb s us I.bf (by rw [bi];exact hl);rwa [bi] at this) r hsp) fun r s' hq=>?_)
 cases r with
 | error e=>exact hx _ e s' L2 nf hq
 | ok fl =>
  cases fl with
  | ret u =>
   obtain ⟨v,H',os,bare,un,hok,rv,q⟩:=hq;exact I.after ⟨v,off H' l.as,os,bare,L2.un un hok nf,Ur hok (L2.behind un),rv,q⟩
  | next=>exact az hq
  | brk=>exact az hq
  | cont=>exact az hq
end
theorem Yb8 {g:Gx} {N:List Str} {qual:Str} {st:Stmt} {f:Addr} {cdv:Α} {A:η} {outer:List Env} {s0:Β} {H0:Hp} {E:XK} {pins:List (Addr×Obj)} {σ:St} {H:Hp} {s:Β} {cs:List Addr}
  (I:Inv (g.dX N qual st f cdv A outer s0 H0 E) pins σ H s):∀ Hz e s',fG H Hz s.heap cs->(∀ b∈cs,b∉frs (g.dX N qual st f cdv A outer s0 H0 E).stack)->m5 g.P g.w (g.dX N qual st f cdv A outer s0 H0 E).stack Hz s (fun c d H'=>E c d (off H' cs)) e s'->(g.dX N qual st f cdv A outer s0 H0 E).xe e s':=by
 rintro Hz e s' L nf ⟨a,cls,H',B,dc,rfl,os,bare,F,hd,q⟩;exact Ky pins σ H s _ s' I ⟨a,cls,off H' cs,B,dc,rfl,os,bare,L.fly F nf,hd,q⟩
def YB.Z (l:YB) (H:Hp):Prop:=∀ p∈l,∃ o,H p.2.1=some (.cM o (WM p.2.1 p.2.2))
theorem W6.z {H Hz:Hp} {l:YB} (h:W6 H Hz l):l.Z Hz:=fun p hp=>by
 obtain ⟨o,z,_⟩:=h.1 p hp;exact ⟨o,z⟩
theorem YB.Z.keep {l:YB} {H H':Hp} (h:l.Z H) (s:Yg H H'):l.Z H':=fun p hp=>by
 obtain ⟨o,z⟩:=h p hp;exact ⟨o,s _ _ z⟩
def Mv (H:Hp) (f c:Addr) (fd:ba) (qual:Str) (l:YB):Prop:=H f=some (cY f fd)/\H c=some (fX c qual)/\l.Z H
section
variable {P:Ρ} {w:Ω} {K:Ι} {mg:Str->Option Α} {base:Heap} {N ps:List Str} {qual:Str} {scope:da} {f c:Addr} {A:η} {outer:List Env} {s:Β} {H:Hp} {l:YB} {cd:Α}
theorem Ygc {Q:VK} {v:V} {u:Α} {σ':St} {H':Hp} {s':Β} (e0:fQ P w K mg base A outer s H) (hin:l.Z H) (J:Inv (VW P w K mg base N qual scope f cd l.cl A outer s (off H l.as)) [] σ' H' s') (hlk:∀ p∈l,l.cl.lookup p.1=some p.2.1) (rv:YH v u) (q:(∀ c∈l.as,H' c=none)->Q v (on H' H l.as)) :
  CE outer P w H s Q u s':=by
 have un:=J.base;have zc:∀ {b:Addr},b∈l.as->∃ o u,H b=some (.cM o u):=fun hm=>by
  obtain ⟨p,hp,rfl⟩:=Xf hm;obtain ⟨o,z⟩:=hin p hp;exact ⟨o,_,z⟩
 have nin:∀ {b:Addr},H b=none->b∉l.as:=fun hb hm=>by
  obtain ⟨o,u,z⟩:=zc hm;rw [z] at hb;cases hb
 have out:∀ {b:Addr} {o:HO},H b=some o->(∀ x u,o ≠ .cM x u)->b∉l.as:=fun hb no hm=>by
  obtain ⟨o,u,z⟩:=zc hm;rw [z] at hb
  exact no _ _ (Ε hb).symm
 have aZ:∀ c∈l.as,H' c=none:=fun c hc=>by
  obtain ⟨p,hp,rfl⟩:=Xf hc;exact J.aZ p.1 p.2.1 (hlk p hp)
 refine ⟨v,on H' H l.as,J.os,J.bare,⟨fun b o e n hb hx=>un.keep b o e (XG n) hb hx,fun b o e n hb hx=>un.slot b o e (XG n) hb hx,fun b o e n hx=>?_,fun b o e hx=>un.there b o e hx,fun b xs e=>?_,fun b o u e=>?_,fun b ps e=>?_⟩,fun b o e=>?_,rv,q aZ⟩
 ·rw [Xd (nin n)]
  exact un.free b o e (XG n) hx
 ·have h1:=out e fun _ _ z=>by cases z
  rw [Xd h1];exact un.tups b xs ((YZ h1).trans e)
 ·by_cases hb:b∈l.as
  ·rw [V4 hb];exact e
  ·rw [Xd hb]
   exact un.bF b o u ((YZ hb).trans e)
 ·have h1:=out e fun _ _ z=>by cases z
  rw [Xd h1];exact un.cJ b ps ((YZ h1).trans e)
 ·by_cases hb:b∈l.as
  ·rw [V4 hb] at e
   obtain ⟨p,hp,rfl⟩:=Xf hb;obtain ⟨ob,z⟩:=hin p hp;rw [z] at e
   cases e
   obtain ⟨ho,y1,y2,y3⟩:=e0.hok _ _ z;have hk:=un.keep _ _ ho (Vm hb) (fun hf=>by have:=e0.iz _ hf;rw [z] at this;cases this) (by intro z;exact absurd (show p.2.1∈([]:List Addr) from z) (by simp));exact ⟨hk,y3 _ _ y1 fun o q=>by rw [ho] at q;cases q;exact hk,⟨ob,hk⟩,y3⟩
  ·rw [Xd hb] at e
   refine (J.hok b o e).stay (fun _ _ _ q=>q) (fun c q=>?_) fun c xs q=>?_
   ·rw [Xd fun hc=>?_]
    ·exact q
    ·rw [aZ c hc] at q;cases q
   ·rw [Xd fun hc=>?_]
    ·exact q
    ·rw [aZ c hc] at q;cases q
end
theorem YfC {P:Ρ} {w:Ω} {K:Ι} {mg:Str->Option Α} {base:Heap} {k:Nat} {f c:Addr} {qual:Str} {params:jb} {body:Expr} {scope:da} {pm ctv:Α} {N ps:List Str} {l:YB} {sp:List V->Hp->VK->Prop}
  (S:dU N ps (l.map (·.1)) scope) (hnd:l.as.Nodup) (len:∀ vs H Q,sp vs H Q->vs.length=ps.length)
  (hbody:∀ (A:η) (outer:List Env) (s:Β) (H:Hp) (vs:List V) (Q:VK),aO k (A.deeper (W.envX qual scope s.heap.objs.size f (.ref c) l.cl))->sp vs H Q ->
   ∃ t,PE (VW P w K mg base N qual scope f (.ref c) l.cl A outer s H) body t/\t (WV N vs l.vs) H Q) :
  bG P w K mg base dG (k+1) f (j3 "<lambda>" qual params body scope l.cl pm (.ref c) ctv) ps
   (fun vs H Q _=>Mv H f c (j3 "<lambda>" qual params body scope l.cl pm (.ref c) ctv) qual l/\sp vs (off H l.as) fun v H'=>(∀ c∈l.as,H' c=none)->Q v (on H' H l.as)):=by
 refine ⟨fun vs H Q E h=>len _ _ _ h.2,fun A outer s H args us vs Q E hr e0 hb r hsp=>?_⟩;obtain ⟨⟨hf,hc,hin⟩,hsp⟩:=hsp;have hl:=len _ _ _ hsp;have lim:s.heap.NoLimit:=e0.mod.nolimit.keeps fun b o e=>(e0.bs b o e).1
 have hfo:=(e0.hok _ _ hf).1;have hco:s.heap.CodeRec (.ref c) qual:=(e0.hok _ _ hc).1;refine W.kla_callFunE hr.depth hfo rfl S.co S.gen rfl hco (hb _ _ _ _ ?_);refine gN S.jT (fun y hy=>S.par y.1 (dy hy).1) (fun h₁ hns hsb=>?_) S.kind;have hk₁:∀ b o,s.heap.get? b=some o->h₁.get? b=some o:=fun b o e=>hsb.extBut b o (ρ (Φ e)) (Ζ _ e)
 refine ⟨lim.keeps hk₁,W.kla_codeExpr ?_⟩;obtain ⟨t,ht,hq⟩:=hbody A outer s (off H l.as) vs _ (hr.deeper _) hsp;have zc:∀ b∈l.as,∃ o u,H b=some (.cM o u):=fun b hm=>by
  obtain ⟨p,hp,rfl⟩:=Xf hm;obtain ⟨o,z⟩:=hin p hp;exact ⟨o,_,z⟩
 have I:=UL (cd := .ref c) (qual:=qual) (f:=f) (tk:=s.toks+(ps.zip us).length) S hnd hr.hd e0 hl r (fun p hp=>by
  obtain ⟨o,z⟩:=hin p hp;exact (e0.hok _ _ z).2.1) (Ur e0.hok zc) hns hk₁
 have lk:=VV (l:=l) (by rw [<- S.suf];exact S.nd.sublist (iP _ _));refine aa (ht [] _ _ _ _ I hq) (fun u s' hs=>?_) fun e s' hs=>hs.elim
 obtain ⟨v,H',J,rv,q⟩:=hs;exact Ygc e0 hin J lk rv q
def Mw (X:Cx) (sp:Sp) (E:XK) (t:TA):TE:=fun σ H Q=>t σ H fun vs H1=>∃ l,XL X σ l/\((∀ c∈l.as,H1 c=none)->∀ Hz,W6 H1 Hz l->sp vs Hz (fun v H'=>Q v (off H' l.as)) fun c d H'=>E c d (off H' l.as))
theorem Yeh {g:Gx} {N:List Str} {qual:Str} {st:Stmt} {f:Addr} {cdv:Α} {A:η} {outer:List Env} {s0:Β} {H0:Hp} {E:XK} {j k:Nat} {x:Str} {ps:List Str} {sp:Sp} {e:Expr} {es:List Expr} {t:TA} {p pos:Pos} (F:g.fV j x ps sp) (hr:aO k (g.dX N qual st f cdv A outer s0 H0 E).A) (ha:PA (g.dX N qual st f cdv A outer s0 H0 E) (e::es) t) (hj:j<=k) (hg:Gl (g.dX N qual st f cdv A outer s0 H0 E) x) (hdb:(x==("__debug__":Str))=false)
  (he:Τ (e::es) (g.dX N qual st f cdv A outer s0 H0 E).env=(false,eval e (g.dX N qual st f cdv A outer s0 H0 E).env)::Τ es (g.dX N qual st f cdv A outer s0 H0 E).env) (hpl:(be pos (Τ es (g.dX N qual st f cdv A outer s0 H0 E).env)).any (·.1)=false) :
  PE (g.dX N qual st f cdv A outer s0 H0 E) (.Call (.Name x p) (e::es) [] pos) (Mw (g.dX N qual st f cdv A outer s0 H0 E) sp E t):=by
 obtain ⟨f',fd,F,b,kp,hm⟩:=F;intro pins s σ H Q I h;refine bz (X8 I hg hm ?_ hdb);refine dn (h₀:=(g.dX N qual st f cdv A outer s0 H0 E).base) I.ok.mod.jc kp (aG (ha pos pins s σ H _ I h) fun us s1 ⟨vs,H1,I1,r,l,hc,q⟩=>⟨I1.bf,?_⟩) he hpl;exact Yeg F (hr.mono hj) b rfl rfl (fun _=>rfl) (Yb8 I1) I1 hc r (q fun c hcc=>by
  obtain ⟨p,hp,rfl⟩:=Xf hcc;exact (Ms I1 hc hp).1)
theorem Gx.gn.fnX {g:Gx} {k:Nat} {x qual:Str} {st:Stmt} {N ps:List Str} {c:Addr} {sp:Sp} (R:g.gn x qual st ps c) (S:ak N ps (Yi st)) (len:∀ vs H Q E,sp vs H Q E->vs.length=ps.length)
  (b:∀ (f:Addr) (A:η) (outer:List Env) (s:Β) (H:Hp) (vs:List V) (Q:VK) (E:XK),aO k (g.dX N qual st f (.ref c) A outer s H E).A->sp vs H Q E ->
   ∃ t,eH (g.dX N qual st f (.ref c) A outer s H E) (YV st) t/\t { nx:=fun _ H'=>Q .non H',rt:=Q } (Xw N vs) H):g.fV (k+1) x ps sp:=by
 obtain ⟨f,fd,F,bd,hm,hc⟩:=R;refine ⟨f,fd,?_,bd,F.kp,hm⟩;obtain ⟨oc,od,kV,doc,pm,an,cdv,ct,osl,rfl,lk,hcd⟩:=F.ex;have hc':cdv = .ref c:=hc;subst hc';exact zq lk hcd S len fun A outer s H vs Q E hr h=>b f A outer s H vs Q E hr h
end L2
namespace L2
open PySem
def Kt (H H':Hp):Prop:=∀ a o,(∀ ps,o ≠ .aU ps)->H a=some o->H' a=some o
theorem Kt.trans {H H1 H2:Hp} (a:Kt H H1) (b:Kt H1 H2):Kt H H2:=fun c o n e=>b c o n (a c o n e)
theorem Yn {H H':Hp} (s:Yg H H'):Kt H H':=fun c o _ e=>s _ _ e
theorem Kt.lst {H H':Hp} (h:Kt H H') {a:Addr} {xs:List V} (e:H a=some (.lst xs)):H' a=some (.lst xs):=h a _ (by intro ps z;cases z) e
theorem Kt.tup {H H':Hp} (h:Kt H H') {a:Addr} {xs:List V} (e:H a=some (.tup xs)):H' a=some (.tup xs):=h a _ (by intro ps z;cases z) e
end L2
namespace HT
open PySem PySem.Spec PyProof.Rows
variable {prog:Ρ} {w:Ω} {A:η} {E:Α->Β->Prop} {s:Β}
end HT
namespace L2
open PySem
noncomputable def sm (a b:ξ):Bool:=@decide (a=b) (Classical.propDecidable _)
abbrev Say:=Except Str ξ
def take (mk:Str) (s:Say) (f:ξ->Option α):Except Str α:=match s with
 | .error m => .error m
 | .ok d=>match f d with
  | some a => .ok a
  | none => .error mk
structure IB (n:Nat) (i:Int):Prop where
 h:i.natAbs<2^(200*2^n)
mutual
def hb:ξ->Prop
 | .list xs=>xs.length<=64/\hbs xs
 | .tuple xs=>xs.length<=64/\hbs xs
 | .str x=>x.length<=64
 | .int i=>IB 0 i
 | .none=>True
 | .bool _=>True
 | .dict _=>False
def hbs:List ξ->Prop
 | []=>True
 | d::ds=>hb d/\hbs ds
end
end L2
namespace L2
open PySem PySem.Spec PyProof.Rows
def cb:Nat->Nat
 | 0=>0
 | n+1=>1+4*cb n
def sb:Nat->Nat
 | 0=>60
 | n+1=>4*sb n+11
end L2
set_option maxHeartbeats 4000000
namespace PySem.W
open PySem PySem.Calls PyProof.Rows
section sort
variable {f:Nat->Nat->Bool} {n:Nat}
structure R7 (f:Nat->Nat->Bool) (n:Nat):Prop where
 asy:∀ i j,i<n->j<n->f i j=true->f j i=false
 tr:∀ i j k,i<n->j<n->k<n->f j i=false->f k j=false->f k i=false
variable (O:R7 f n) (h0:0<n)
include O h0
end sort
end PySem.W
set_option maxHeartbeats 4000000
set_option maxHeartbeats 4000000
set_option maxHeartbeats 4000000
set_option maxHeartbeats 4000000
set_option maxHeartbeats 4000000
set_option maxHeartbeats 4000000
set_option maxHeartbeats 4000000
namespace L2
open PySem PySem.Spec PyProof.Rows
open PySem.Builtin PySem.Builtin.Str
section
variable {X:Cx} {K:Ι}
def R8 (K:Ι) (Cs:List Addr):List V->Hp->VK->Prop:=fun xs H Q=>∃ C∈Cs,∃ a c cv b dc,xs=[.ref a,c]/\Vu c=some cv/\H a=some (XX a (.ref C) dc)/\γ K (.ref C) cv=some b/\Q (.bl b) H
theorem Xg:∀ C∈([]:List Addr),fD K C:=fun _ h=>by cases h
theorem YG {C:Addr} {Cs:List Addr} (h:fD K C) (r:∀ C∈Cs,fD K C):∀ D∈C::Cs,fD K D:=fun D hD=>by
 rcases Ψ.mp hD with rfl | hD
 ·exact h
 ·exact r D hD
theorem YS {Cs:List Addr} (T:∀ C∈Cs,fD K C) (h:X.K=K:=by rfl):XC X (.builtin "isinstance") (R8 K Cs):=by
 intro pins s σ H xs us Q I r ⟨C,hC,q⟩;exact QI (T C hC) h pins s σ H xs us Q I r q
end
end L2
set_option maxHeartbeats 4000000
set_option maxHeartbeats 4000000
namespace L2
open PySem PySem.Spec PyProof.Rows PySem.W
section
variable {X:Cx}
theorem Ygd (hu:X.A.units+66<fw) {K:Ι} (hK:X.K=K:=by rfl):cu X (bj .Eq) (fun x y H Q=>∃ (a b:Addr) (xs:List V),x = .ref a/\y = .ref b/\aA K H a xs/\aA K H b []/\Q (.bl xs.isEmpty) H):=by
 subst hK;intro pins s σ H x y v u Q I rx ry h;obtain ⟨a,b,xs,rfl,rfl,ha,hb,q⟩:=h;obtain rfl:v=ζ a:=rx;obtain rfl:u=ζ b:=ry;obtain ⟨its,r1,p1,_⟩:=I.list ha;obtain ⟨its2,r2,p2,_⟩:=I.list hb
 cases r2
 have e:xs.isEmpty=its.isEmpty:=by
  have:=r1.length
  cases xs<;>cases its<;>simp_all
 rw [e] at q
 cases its with
 | nil=>exact SeqAt.RcAt.lists (e:=fun _=>true) p1.isList p2.isList rfl (by omega) (fun j j1 _=>by simp at j1) _ _ _ _ ⟨.bl _,H,I,rfl,q⟩
 | cons z zs=>exact SeqAt.RcAt.lists_lengths p1.isList p2.isList (by simp) (by omega) _ _ _ _ ⟨.bl _,H,I,rfl,q⟩
end
end L2
namespace L2
open PySem PySem.Spec PyProof.Rows
inductive R9 (L:List (Addr×Sp)) (H:Hp) (a:Addr) (m:Str) (Q:Sp->Prop):Prop
 | mk (C:Addr) (sp:Sp) (hm:(C,sp)∈L) (dx:Addr) (fs:List (Str×V)) (h:H a=some (.ins C dx fs)) (l:fs.lookup m=none) (q:Q sp)
theorem Ym {s u:TS} {D:Ends} {σ:St} {H:Hp} (h:∀ R:St->Hp->Prop,(∀ σ' H',u D σ' H'->R σ' H')->s { D with nx:=R } σ H):Uh s u D σ H:=h _ fun _ _ h=>h
def Am (L:List (Addr×Sp)) (m:Str) (ta:TE) (t:TA):TE:=fun σ H Q=>ta σ H fun x H1=>kR x fun a=>R9 L H1 a m fun sp=>t σ H1 fun vs H2=>sp (.ref a::vs) H2 Q E0
def Gx.vN (g:Gx) (j:Nat) (m:Str) (ps:List Str) (L:List (Addr×Sp)):Prop:=∀ C sp,(C,sp)∈L->g.Me j C m ps sp/\Cls g.K C
section
variable {X:Cx} {g:Gx} {j k:Nat} {C:Addr} {m:Str} {ps:List Str} {sp:Sp} {L:List (Addr×Sp)} {o e:Expr} {es:List Expr} {ta:TE} {t:TA} {apos pos:Pos}
theorem Mx:g.vN j m ps []:=fun _ _ h=>by cases h
theorem VA (F:g.Me j C m ps sp) (c:Cls g.K C) (h:g.vN j m ps L):g.vN j m ps ((C,sp)::L):=fun C' sp' hm=>by
 rcases Ψ.mp hm with e | hm
 ·cases e;exact ⟨F,c⟩
 ·exact h C' sp' hm
theorem Mz {pl:Sem Bool} (F:g.vN j m ps L) (hr:aO k X.A) (ho:PE X o ta) (ha:PA X (e::es) t) (hj:j<=k) (hX:X.gx=g)
  (hst:Τ (e::es) X.env=(false,eval e X.env)::Τ es X.env) (hpl:(be pos (Τ es X.env)).any (·.1)=false)
  (ht:eval (.Call (.Attribute o m apos) (e::es) [] pos) X.env=(do
   let ov <- eval o X.env
   standAt apos.atName
   let (f,first) <- holding [ov] (i9 ov m pl)
   kP pos f first (be pos (Τ (e::es) X.env)) (kQ pos (i3 [] X.env)))):PE X (.Call (.Attribute o m apos) (e::es) [] pos) (Am L m ta t):=by
 subst hX;intro pins s σ H Q I h;refine PySem.W.methodCall_KW (pl:=pl) (aG (ho pins s σ H _ I h) fun u s1 ⟨x,H1,I1,rx,q⟩=>?_) ht
 replace q:=WQ.mp q
 obtain ⟨a,ex,C,sp,hL,dx,fs,ea,l,q⟩:=q;subst ex;obtain rfl:u=ζ a:=rx;obtain ⟨⟨f,fd,F,b,hm⟩,c⟩:=F C sp hL;refine UB I1 ea c hm l ?_;refine dn (first:=[.ref a]) (h₀:=X.base) I.ok.mod.jc hm.kp (aG (ha pos pins s1 σ H1 _ I1 q) fun us s2 ⟨vs,H2,I2,r,q2⟩=>⟨I2.bf,?_⟩) hst hpl;exact Vg (us := .ref a::us) (vs := .ref a::vs) F (hr.mono hj) b .nil W3 I2 (.cons rfl r) (by rw [bi];exact q2)
end
def Iw (s:Stmt):Expr:=match s with
 | .Assign _ (.Call _ as _ _) _=>as.getLastD (.Constant .none 0 ⟨0,0,0,0⟩)
 | .Return (some (.Call _ as _ _)) _=>as.getLastD (.Constant .none 0 ⟨0,0,0,0⟩)
 | .If (.Compare (.Call _ as _ _) _ _ _) _ _ _=>as.getLastD (.Constant .none 0 ⟨0,0,0,0⟩)
 | _ => .Constant .none 0 ⟨0,0,0,0⟩
inductive jU (K:Ι) (H:Hp):V->V->Prop
 | den {x y:V} {d e:ξ} (hd:Den K H x d) (he:Den K H y e) (dp:d.depth<=60) (q:d.eqv e=true):jU K H x y
 | one (a:Addr):jU K H (.ref a) (.ref a)
inductive lD (K:Ι) (H:Hp):V->V->Prop
 | den {x y:V} {d e:ξ} (hd:Den K H x d) (he:Den K H y e) (dp:d.depth<=60) (q:d.eqv e=true):lD K H x y
 | dg (a:Addr) (h:H a=some (.dK [])):lD K H (.ref a) (.ref a)
 | lst {a b:Addr} {xs ys:List V} (ha:aA K H a xs) (hb:aA K H b ys) (hl:xs.length=ys.length) (h:∀ (i:Nat) x y,xs[i]?=some x->ys[i]?=some y->jU K H x y):lD K H (.ref a) (.ref b)
section
variable {X:Cx} {pins:List (Addr×Obj)} {σ:St} {H:Hp} {s:Β}
theorem jU.at {A:η} {x y:V} {u v:Α} (I:Inv X pins σ H s) (h:jU X.K H x y) (rx:YH x u) (ry:YH y v) (hu:A.units+60<fw):lm A s u v true:=by
 cases h with
 | den hd he dp q =>
  obtain ⟨as,ra⟩:=hd.reads I rx;obtain ⟨bs,rb⟩:=he.reads I ry;rw [<- q];exact SeqAt.eqAt_reads _ _ A s u v as bs ra rb hd.lay he.lay (by omega)
 | one a =>
  cases (show u = .ref a from rx)
  cases (show v = .ref a from ry)
  exact SeqAt.EqAt.same _
theorem MF {A:η} {xs ys:List V} {us vs:List Α} (I:Inv X pins σ H s) (h:∀ (i:Nat) x y,xs[i]?=some x->ys[i]?=some y->jU X.K H x y) (rx:Yz xs us) (ry:Yz ys vs) (hu:A.units+60<fw) (j:Nat) (h1:j<us.toArray.size) (h2:j<vs.toArray.size):lm A s us.toArray[j] vs.toArray[j] true:=by
 have e1:us[j]?=some us.toArray[j]:=by simp at h1 ⊢
 have e2:vs[j]?=some vs.toArray[j]:=by simp at h2 ⊢
 have l1:=rx.length;have l2:=ry.length;have f1:xs[j]?=some (xs[j]'(by simp at h1;omega)):=Λ _;have f2:ys[j]?=some (ys[j]'(by simp at h2;omega)):=Λ _;obtain ⟨u,hu1,r1⟩:=rx.get f1;obtain ⟨v,hv1,r2⟩:=ry.get f2;rw [e1] at hu1
 rw [e2] at hv1
 cases Ε hu1
 cases Ε hv1
 exact jU.at I (h j _ _ f1 f2) r1 r2 hu
theorem MJ (n:Nat):(a9 n).all (fun _=>true)=true:=by simp
end
section
variable {X:Cx}
theorem Yge (hu:X.A.units+64<fw):cu X (bj .Eq) (fun x y H Q=>lD X.K H x y/\Q (.bl true) H):=by
 intro pins s σ H x y u v Q I rx ry h;obtain ⟨h,q⟩:=h
 cases h with
 | den hd he dp e =>
  obtain ⟨as,ra⟩:=hd.reads I rx;obtain ⟨bs,rb⟩:=he.reads I ry;refine SeqAt.rcAt_reads ra rb hd.lay he.lay (by omega) _ _ _ _ ⟨.bl _,H,I,rfl,?_⟩;rw [e];exact q
 | dg a h =>
  cases (show u = .ref a from rx)
  cases (show v = .ref a from ry)
  obtain ⟨_,hS,vs,r,m⟩:0<=sizeLine/\(a==eW)=false/\∃ vs,KV [] vs/\s.heap.DictOf (XD X.prog X.w) a vs:=I.hok a _ h
  cases r
  exact W.keq_eq hS hS m m (by omega) (r:=true) (fun _=>by constructor) ⟨.bl _,H,I,rfl,q⟩
 | lst ha hb hl h =>
  rename_i a b xs ys
  cases (show u = .ref a from rx)
  cases (show v = .ref b from ry)
  obtain ⟨us,rv,pl,_⟩:=I.list ha;obtain ⟨vs,rv',Ao,_⟩:=I.list hb;have l1:=rv.length;have l2:=rv'.length;refine SeqAt.RcAt.lists (e:=fun _=>true) pl.isList Ao.isList (by simp;omega) (by omega) (fun j h1 h2=>MF I h rv rv' (by show X.A.units+1+60<fw;omega) j h1 h2) _ _ _ _ ⟨.bl _,H,I,?_,q⟩;rw [MJ];rfl
theorem Ygf (hu:X.A.units+64<fw):cu X (bj .NotEq) (fun x y H Q=>lD X.K H x y/\Q (.bl false) H):=by
 intro pins s σ H x y u v Q I rx ry h;obtain ⟨h,q⟩:=h
 cases h with
 | den hd he dp e =>
  obtain ⟨as,ra⟩:=hd.reads I rx;obtain ⟨bs,rb⟩:=he.reads I ry;refine SeqAt.compareNe_reads ra rb hd.lay he.lay (by omega) ⟨.bl _,H,I,rfl,?_⟩;rw [e];exact q
 | dg a h =>
  cases (show u = .ref a from rx)
  cases (show v = .ref a from ry)
  obtain ⟨_,hS,vs,r,m⟩:0<=sizeLine/\(a==eW)=false/\∃ vs,KV [] vs/\s.heap.DictOf (XD X.prog X.w) a vs:=I.hok a _ h
  cases r
  exact W.keq_ne hS hS m m (by omega) (r:=true) (fun _=>by constructor) ⟨.bl _,H,I,rfl,q⟩
 | lst ha hb hl h =>
  rename_i a b xs ys
  cases (show u = .ref a from rx)
  cases (show v = .ref b from ry)
  obtain ⟨us,rv,pl,_⟩:=I.list ha;obtain ⟨vs,rv',Ao,_⟩:=I.list hb;have l1:=rv.length;have l2:=rv'.length;refine SeqAt.RcNeAt.lists (e:=fun _=>true) pl.isList Ao.isList (by simp;omega) (by omega) (fun j h1 h2=>MF I h rv rv' (by show X.A.units+1+60<fw;omega) j h1 h2) _ _ _ _ ⟨.bl _,H,I,?_,q⟩;rw [MJ];rfl
end
section
variable {prog:Ρ} {w:Ω} {A:η} {E:Α->Β->Prop} {s:Β} {R:Result->Β->Prop} {z TI TO i1 i2 S p1:Addr}
theorem Yei {Q:Option Α->Β->Prop} (hh:A.handled=none) (c1:i1≠z) (c2:p1≠z) (hz:IsZip s.heap z TI TO .none) (hTI:IsPair s.heap TI (.ref i1) (.ref i2)) (h1:s.heap.IsTupleIter i1 p1 0) (t1:s.heap.IsTuple p1 #[])
  (hQ:∀ h' tk,(∀ c o,c≠z->c≠i1->s.heap.get? c=some o->h'.get? c=some o)->Q none { s with heap:=h',toks:=tk }):Μ (Ξ prog w) A (pyNext (.ref z)) Q E s:=by
 have hT:s.TypeIs (.ref z) "zip":=⟨_,hz,rfl⟩;unfold pyNext;refine Δ (wpAny_attempt (dE (name:=ah "__next__") hT F.slot_zip_next (eL F.slot_zip_next hT F.entry_zip_next ?_ (F.args_zip_next_1 _))))
 show Μ _ _ (field (.ref z) 2 >>= _) _ _ _
 refine Δ (c8 hz rfl (x := .bool false) rfl ?_)
 show Μ _ _ (field (.ref z) 3 >>= _) _ _ _
 refine Δ (c8 hz rfl (x := .ref TI) rfl ?_);refine Δ (f8 hTI rfl ?_)
 show Μ _ _ (Builtin.SmallTypes.ownedTupleIsFree (.ref z) >>= _) _ _ _
 refine Δ ?_;unfold Builtin.SmallTypes.ownedTupleIsFree;refine Δ (c8 hz rfl (x := .none) rfl (Ο ?_));simp only [if_true];refine Δ (kG ?_);refine Δ (c8 hz rfl (x := .ref TO) rfl ?_);refine Δ (wpAny_setField_rec hz (by simp) fun h₁ hz₁ hs₁=>?_)
 replace hz₁:IsZip h₁ z TI TO .ellipsis:=hz₁
 refine Δ ?_;simp only [List.zipIdx_cons,List.zipIdx_nil,List.forIn_cons,List.forIn_nil];refine Δ (Δ (wpAny_onRaise ?_))
 show Μ _ _ (bX (.ref i1) >>= _) _ _ _
 obtain ⟨o1,e1,r1⟩:=h1;obtain ⟨o3,e3,r3⟩:=t1;refine Δ (Ul (s:={ s with heap:=h₁ }) (items:=#[]) hh ⟨o1,hs₁.extBut _ _ c1 e1,r1⟩ ⟨o3,hs₁.extBut _ _ c2 e3,r3⟩ rfl fun h₂ e hs₂ he=>?_);obtain ⟨oe,hoe,hce⟩:=he;have hz₂:IsZip h₂ z TI TO .ellipsis:=hs₂ _ _ c1.symm hz₁;have hez:e≠z:=fun x=>by subst x;rw [hz₂] at hoe;cases hoe;simp at hce
 refine wpAny_setField_rec hz₂ (by simp) fun h₃ _ hs₃=>?_
 refine Δ (wpAny_isInstance (T:="StopIteration") (b:=true) ⟨oe,hs₃.extBut _ _ hez hoe,hce⟩ isSubtype_stop ?_);exact Ο (hQ h₃ s.toks fun c o c1 c3 x=>hs₃.extBut _ _ c1 (hs₂ _ _ c3 (hs₁.extBut _ _ c1 x)))
theorem Qd {Q:Α->Β->Prop} (hh:A.handled=none) (c1:i1≠z) (c2:p1≠z) (hz:IsZip s.heap z TI TO .none) (hTI:IsPair s.heap TI (.ref i1) (.ref i2)) (h1:s.heap.IsTupleIter i1 p1 0) (t1:s.heap.IsTuple p1 #[])
  (hQ:∀ (h':Heap) (tk c:Nat),(∀ b o,b≠z->b≠i1->s.heap.get? b=some o->h'.get? b=some o)->h'.get? s.heap.objs.size=some { cls := .type "list",dict:=none,data := .seq #[] c,slots:=#[] }->Q (.ref s.heap.objs.size) { s with heap:=h',toks:=tk }) :
  Μ (Ξ prog w) A (call (.type "list") [.ref z]) Q E s:=by
 refine callType_codes (Q₁:=fun obj s₁=>obj = .ref s.heap.objs.size/\s₁={ s with heap:=s.heap.push { cls := .type "list",data := .seq #[] } }) F.called_list (F.typeCall_list_1 _) F.entry_list_init
  (code_list_new _ ⟨rfl,rfl⟩) fun obj s₁ h₁=>?_
 obtain ⟨rfl,rfl⟩:=h₁;have hS:(s.heap.push { cls := .type "list",data := .seq #[] }).get? s.heap.objs.size=some { cls := .type "list",data := .seq #[] }:=δ _ rfl;obtain ⟨o1,e1,r1⟩:=h1;obtain ⟨o3,e3,r3⟩:=t1;have lz:=Φ hz;have l1:=Φ e1;refine ⟨⟨_,hS,rfl⟩,F.args_list_init_2 _ _,?_⟩
 show Μ _ _ (do let old <- Builtin.List.listItems (.ref s.heap.objs.size);Builtin.List.listUpdate (.ref s.heap.objs.size) (fun _=>#[]);letGo old.toList.reverse;Builtin.List.listExtendWith (.ref s.heap.objs.size) (.ref z) .none) _ _ _
 refine Δ ?_;unfold Builtin.List.listItems;refine Δ (f8 hS rfl (Ο ?_))
 show Μ _ _ (updateSeq s.heap.objs.size (fun _=>#[]) >>= fun _=>letGo (#[]:Array Α).toList.reverse >>= fun _=>Builtin.List.listExtendWith (.ref s.heap.objs.size) (.ref z) .none) _ _ _
 refine Δ (wpAny_updateSeq hS rfl ?_);have hS₂:=c5 (gv (fun _=>(#[]:Array Α))) hS rfl;have m:∀ b o,s.heap.get? b=some o->((s.heap.push { cls := .type "list",data := .seq #[] }).update s.heap.objs.size (gv (fun _=>(#[]:Array Α)))).get? b=some o:=fun b o e=>(dm _ _ (ψ (ρ (Φ e)))).trans (Ζ _ e)
 refine Δ (wpAny_letGo ?_);have hT:({ s with heap:=(s.heap.push { cls := .type "list",data := .seq #[] }).update s.heap.objs.size (gv (fun _=>(#[]:Array Α))) }:Β).TypeIs (.ref z) "zip":=⟨_,m _ _ hz,rfl⟩;generalize (s.heap.push { cls := .type "list",data := .seq #[] }).update s.heap.objs.size (gv (fun _=>(#[]:Array Α)))=hp at hS₂ m hT;have key:∀ (h:Heap) (c₁ tk:Nat),(∀ b o,s.heap.get? b=some o->h.get? b=some o)->h.get? s.heap.objs.size=some { cls := .type "list",data := .seq #[] c₁ }->ei (Ξ prog w) A.in1 (.builtin "list.extend.loop" ⟨[.ref s.heap.objs.size,.ref z,.none],[]⟩) (wants (fun r s₂=>r = .none/\Q (.ref s.heap.objs.size) s₂) E) { s with heap:=h,toks:=tk }:=by
  intro h c₁ tk hk hS₁;refine codeAny_builtin F.entry_extend_loop ?_;rw [Around.under_plainId F.plain_extend_loop _]
  show Μ _ _ (pyNext (.ref z) >>= _) _ _ _
  exact Δ (Yei (s:={ s with heap:=h,toks:=tk }) hh c1 c2 (hk _ _ hz) (hk _ _ hTI) ⟨o1,hk _ _ e1,r1⟩ ⟨o3,hk _ _ e3,r3⟩ fun h' tk' kp=>Ο ⟨rfl,hQ h' tk' c₁ (fun b o b1 b2 e=>kp b o b1 b2 (hk b o e)) (kp _ _ (eK lz) (eK l1) hS₁)⟩)
 unfold Builtin.List.listExtendWith;refine Δ (wpAny_typeOf (T:="zip") hT ?_);have h1:Builtin.List.listSameRef (.ref s.heap.objs.size) (.ref z)=false:=by simp [Builtin.List.listSameRef,eK lz]
 have h2:(fc "zip"==fc "list")=false:=by decide
 have h3:(fc "zip"==fc "tuple")=false:=by decide
 simp only [h1,h2,h3,Bool.or_false,eh,if_false];refine Δ (wpAny_pyIter_zip (m _ _ hz) ?_);refine Δ (i5 (YdO hT ?_));refine wpAny_ite_split (fun _=>?_) (fun _=>Ο ⟨plainId_quiet F.plain_extend_loop _,key _ _ _ m hS₂⟩);refine Δ (kG ?_);refine Δ ?_
 show Μ _ _ (updateSeq s.heap.objs.size (·.push .none) >>= fun _=>updateSeq s.heap.objs.size (·.pop)) _ _ _
 refine Δ (wpAny_updateSeq hS₂ rfl ?_);have hS₃:=c5 (gv (·.push ck)) hS₂ rfl;refine wpAny_updateSeq (hz:=by seq_fits) hS₃ rfl ?_;have hS₄:=c5 (gv (·.pop)) hS₃ rfl;refine Ο ⟨plainId_quiet F.plain_extend_loop _,key _ _ _ (fun b o e=>?_) hS₄⟩;have hb:=ψ (ρ (Φ e));exact (dm _ _ hb).trans ((dm _ _ hb).trans (m b o e))
end
section
variable {X:Cx}
def Aq (K:Ι) (ta:TA):TE:=fun σ H Q=>ta σ H fun vs H1=>∃ a b,vs=[.ref a,.ref b]/\aq K H1 a []/\aq K H1 b []/\∀ l,H1 l=none->Q (.ref l) (upd H1 l (.lst []))
theorem Yak {a b:Expr} {ta:TA} {p q pos pos':Pos} (hgl:Gl X "list") (hml:X.mg "list"=none) (hg:Gl X "zip") (hm:X.mg "zip"=none) (ha:PA X [a,b] ta) (hc:X.calm=true)
  (hs:Τ [a,b] X.env=[(false,eval a X.env),(false,eval b X.env)]) (hs2:Τ [b] X.env=[(false,eval b X.env)]) :
  PE X (.Call (.Name "list" p) [.Call (.Name "zip" q) [a,b] [] pos'] [] pos) (Aq X.K ta):=by
 intro pins s σ H Q I h;refine bz (X0 I hgl hml boot_list ?_);refine a7 ?_
 show Μ _ _ (spliced ((false,eval (.Call (.Name "zip" q) [a,b] [] pos') X.env)::[])) _ _ s
 refine Calls.spliced_cons ?_;refine bz (X0 I hg hm boot_zip (a7 (aG (ha pos' pins s σ H _ I h) fun us s1 ⟨vs,H1,I1,r1,q1⟩=>?_) (by rw [hs,hs2]) (by rw [hs2];rfl)));obtain ⟨x,y,e,hx,hy,q⟩:=q1;subst e;obtain ⟨u,v,rfl,ru,rv⟩:=r1.two
 cases ru
 cases rv
 obtain ⟨i1,w1,ht1,z1⟩:=I1.tuple hx;obtain ⟨i2,w2,rJ,z2⟩:=I1.tuple hy
 cases w1
 have l1:x<s1.heap.objs.size:=by obtain ⟨_,e,_⟩:=ht1;exact Φ e
 refine YcL (VF ht1) (VF rJ) rfl rfl fun h1 hz hTI hTO g1 g2 hsz keep=>?_
 refine Calls.spliced_nil ?_;have I2:Inv X pins σ H1 { s1 with heap:=h1 }:=I1.kept (t':=s1.toks) keep;have t1:h1.IsTuple x #[]:=by obtain ⟨o,e,r⟩:=ht1;exact ⟨o,keep _ _ e,r⟩
 refine Qd (s:={ s1 with heap:=h1 }) (I2.ok.hd hc) (by show @Ne Nat _ _;omega) (fun z=>by rw [z] at l1;exact absurd l1 (by show ¬ @LT.lt Nat _ _ _;omega)) hz hTI ⟨_,g1,rfl,rfl⟩ t1 fun h' tk c kp hS=>?_
 have fr:=I2.hok.fresh (Ν h1.objs.size);have I3:Inv X pins σ (upd H1 h1.objs.size (.lst [])) { s1 with heap:=h',toks:=tk }:=by
  refine I2.yt (s:={ s1 with heap:=h1 }) (ch:=[s1.heap.objs.size+4,s1.heap.objs.size]) (fun b o hb e=>kp b o (fun z=>hb (by simp [z])) (fun z=>hb (by simp [z])) e) (fun b hb=>?_) (fun b u e=>by rw [Ye (Yj e fr)];exact e) (fun b u e hn=>?_)
  ·have hle:s1.heap.objs.size<=b:=by
    simp only [Ψ,ax,or_false] at hb;rcases hb with e | e<;>(have e':@Eq Nat _ _:=e;show @LE.le Nat _ s1.heap.objs.size b;omega)
   exact I1.iT hle (I1.hok.fresh hle)
  ·by_cases hb:b=h1.objs.size
   ·subst hb
    rw [Yb] at e
    cases e
    exact ⟨Ν _,ar _,[],c,.nil,hS⟩
   ·rw [Ye hb,hn] at e;cases e
 exact ⟨.ref h1.objs.size,_,I3,rfl,q _ fr⟩
end
end L2
set_option maxHeartbeats 8000000
namespace KW
open PySem L2
def top (i:Nat):Stmt:=PySem.Challenge.pw_countgen_k85_deeds_refused.main.body.getD i (.Pass ⟨0,0,0,0⟩)
abbrev Us:Stmt:=top 2
theorem Ydh:ak ["thing"] ["thing"] (Yi Us):=⟨rfl,rfl,rfl,by decide +kernel,rfl,by decide +kernel,by decide +kernel⟩
abbrev Ar:Stmt:=top 19
theorem MK:ak ["shape","kind"] ["shape"] (Yi Ar):=⟨rfl,rfl,rfl,by decide +kernel,rfl,by decide +kernel,by decide +kernel⟩
abbrev Av:Stmt:=top 21
theorem MN:ak ["book","name","pair"] ["book","name"] (Yi Av):=⟨rfl,rfl,rfl,by decide +kernel,rfl,by decide +kernel,by decide +kernel⟩
abbrev Aw:Stmt:=top 23
theorem Z3A:ak ["thing"] ["thing"] (Yi Aw):=⟨rfl,rfl,rfl,by decide +kernel,rfl,by decide +kernel,by decide +kernel⟩
abbrev Ax:Stmt:=top 24
theorem Ay:ak ["branches","mark","place","branch"] ["branches","mark"] (Yi Ax):=⟨rfl,rfl,rfl,by decide +kernel,rfl,by decide +kernel,by decide +kernel⟩
abbrev Az:Stmt:=top 25
theorem YaH:ak ["branches","value"] ["branches","value"] (Yi Az):=⟨rfl,rfl,rfl,by decide +kernel,rfl,by decide +kernel,by decide +kernel⟩
abbrev Ba:Stmt:=top 26
theorem MP:ak ["shape","value","kind"] ["shape","value"] (Yi Ba):=⟨rfl,rfl,rfl,by decide +kernel,rfl,by decide +kernel,by decide +kernel⟩
abbrev Bb:Stmt:=top 27
theorem M4:ak ["book","shape","value","kind"] ["book","shape","value"] (Yi Bb):=⟨rfl,rfl,rfl,by decide +kernel,rfl,by decide +kernel,by decide +kernel⟩
abbrev Bc:Stmt:=top 28
theorem Z4o:ak ["keys"] ["keys"] (Yi Bc):=⟨rfl,rfl,rfl,by decide +kernel,rfl,by decide +kernel,by decide +kernel⟩
abbrev Bd:Stmt:=top 34
theorem Bf:ak ["shape","keys","kind","size","rises"] ["shape","keys"] (Yi Bd):=⟨rfl,rfl,rfl,by decide +kernel,rfl,by decide +kernel,by decide +kernel⟩
abbrev Bg:Stmt:=top 35
theorem M5:ak ["shape","value","keys","kind"] ["shape","value","keys"] (Yi Bg):=⟨rfl,rfl,rfl,by decide +kernel,rfl,by decide +kernel,by decide +kernel⟩
abbrev Bh:Stmt:=top 36
theorem rK:ak ["book","shape","value","keys","part","thing","key"] ["book","shape","value"] (Yi Bh):=⟨rfl,rfl,rfl,by decide +kernel,rfl,by decide +kernel,by decide +kernel⟩
abbrev Bj:Stmt:=top 39
theorem YfD:ak ["one","other"] ["one","other"] (Yi Bj):=⟨rfl,rfl,rfl,by decide +kernel,rfl,by decide +kernel,by decide +kernel⟩
abbrev Bk:Stmt:=top 40
theorem YaI:ak ["thing"] ["thing"] (Yi Bk):=⟨rfl,rfl,rfl,by decide +kernel,rfl,by decide +kernel,by decide +kernel⟩
abbrev Qe:Stmt:=top 44
theorem jV:ak ["begin","done","model_begin","model_done","deeds","state","model_state","place","deed","pair","model_pair"] ["begin","done","model_begin","model_done","deeds"] (Yi Qe):=⟨rfl,rfl,rfl,by decide +kernel,rfl,by decide +kernel,by decide +kernel⟩
abbrev vO:Stmt:=top 45
theorem QJ:ak ["begin","done","model_begin","model_done"] ["begin","done","model_begin","model_done"] (Yi vO):=⟨rfl,rfl,rfl,by decide +kernel,rfl,by decide +kernel,by decide +kernel⟩
abbrev Bl:Stmt:=top 47
theorem M6:ak ["book","shape","value","key"] ["book","shape","value"] (Yi Bl):=⟨rfl,rfl,rfl,by decide +kernel,rfl,by decide +kernel,by decide +kernel⟩
abbrev Bp:Stmt:=top 48
theorem YfE:ak ["book","shape","value"] ["book","shape","value"] (Yi Bp):=⟨rfl,rfl,rfl,by decide +kernel,rfl,by decide +kernel,by decide +kernel⟩
abbrev Bq:Stmt:=top 49
theorem Z3C:ak ["book","shape","value"] ["book","shape","value"] (Yi Bq):=⟨rfl,rfl,rfl,by decide +kernel,rfl,by decide +kernel,by decide +kernel⟩
abbrev Br:Stmt:=top 50
theorem Yb9:ak ["book","shape","value"] ["book","shape","value"] (Yi Br):=⟨rfl,rfl,rfl,by decide +kernel,rfl,by decide +kernel,by decide +kernel⟩
abbrev Bs:Stmt:=top 65
theorem Z3Y:ak ["size"] ["size"] (Yi Bs):=⟨rfl,rfl,rfl,by decide +kernel,rfl,by decide +kernel,by decide +kernel⟩
abbrev Qf:Stmt:=top 77
theorem Yej:ak ["judge","value"] ["judge","value"] (Yi Qf):=⟨rfl,rfl,rfl,by decide +kernel,rfl,by decide +kernel,by decide +kernel⟩
abbrev Bu:Stmt:=top 79
theorem M7:ak ["maker","below","size"] ["maker","below"] (Yi Bu):=⟨rfl,rfl,rfl,by decide +kernel,rfl,by decide +kernel,by decide +kernel⟩
abbrev Bv:Stmt:=top 81
theorem vP:ak ["low","value","steps","distance"] ["low","value"] (Yi Bv):=⟨rfl,rfl,rfl,by decide +kernel,rfl,by decide +kernel,by decide +kernel⟩
abbrev Bw:Stmt:=top 82
theorem Z4p:ak ["things"] ["things"] (Yi Bw):=⟨rfl,rfl,rfl,by decide +kernel,rfl,by decide +kernel,by decide +kernel⟩
abbrev Bx:Stmt:=top 83
theorem vQ:ak ["things","inner","changed","place","steps"] ["things","inner"] (Yi Bx):=⟨rfl,rfl,rfl,by decide +kernel,rfl,by decide +kernel,by decide +kernel⟩
abbrev BJ:Stmt:=top 84
theorem vR:ak ["book","use","shape","value","found","part","thing"] ["book","use","shape","value"] (Yi BJ):=⟨rfl,rfl,rfl,by decide +kernel,rfl,by decide +kernel,by decide +kernel⟩
abbrev BK:Stmt:=top 86
theorem YaJ:ak ["book","shape","value"] ["book","shape","value"] (Yi BK):=⟨rfl,rfl,rfl,by decide +kernel,rfl,by decide +kernel,by decide +kernel⟩
abbrev BL:Stmt:=top 88
theorem M8:ak ["judge","values","value"] ["judge","values"] (Yi BL):=⟨rfl,rfl,rfl,by decide +kernel,rfl,by decide +kernel,by decide +kernel⟩
abbrev BP:Stmt:=top 89
theorem vU:ak ["judge","value","values_next","breaches","reached"] ["judge","value","values_next"] (Yi BP):=⟨rfl,rfl,rfl,by decide +kernel,rfl,by decide +kernel,by decide +kernel⟩
abbrev BR:Stmt:=top 91
theorem V7:ak ["deeds","told","length"] ["deeds"] (Yi BR):=⟨rfl,rfl,rfl,by decide +kernel,rfl,by decide +kernel,by decide +kernel⟩
abbrev rM:Stmt:=top 92
theorem BW:ak ["book","shape","begin","done","model_begin","model_done","deeds","many","judge"] ["book","shape","begin","done","model_begin","model_done","deeds"] (Yi rM):=⟨rfl,rfl,rfl,by decide +kernel,rfl,by decide +kernel,by decide +kernel⟩
abbrev BX:Stmt:=top 94
theorem vV:ak ["_law_script","_law_k","_law_step","_law_found","_law_cell"] ["_law_script","_law_k","_law_step"] (Yi BX):=⟨rfl,rfl,rfl,by decide +kernel,rfl,by decide +kernel,by decide +kernel⟩
abbrev BZ:Stmt:=top 95
theorem Yao:ak ["_law_found"] ["_law_found"] (Yi BZ):=⟨rfl,rfl,rfl,by decide +kernel,rfl,by decide +kernel,by decide +kernel⟩
abbrev Ca:Stmt:=top 98
theorem YaK:ak ["_law_value"] ["_law_value"] (Yi Ca):=⟨rfl,rfl,rfl,by decide +kernel,rfl,by decide +kernel,by decide +kernel⟩
abbrev Cd:Stmt:=top 99
theorem Yap:ak ["_law_e"] ["_law_e"] (Yi Cd):=⟨rfl,rfl,rfl,by decide +kernel,rfl,by decide +kernel,by decide +kernel⟩
abbrev Ce:Stmt:=top 100
theorem YaL:ak ["_law_cell","_law_low"] ["_law_cell","_law_low"] (Yi Ce):=⟨rfl,rfl,rfl,by decide +kernel,rfl,by decide +kernel,by decide +kernel⟩
abbrev Cg:Stmt:=top 101
theorem Z4B:ak ["_law_thing_here","_law_low"] ["_law_thing_here","_law_low"] (Yi Cg):=⟨rfl,rfl,rfl,by decide +kernel,rfl,by decide +kernel,by decide +kernel⟩
abbrev Ci:Stmt:=top 102
theorem Z4C:ak ["_law_things","_law_low"] ["_law_things","_law_low"] (Yi Ci):=⟨rfl,rfl,rfl,by decide +kernel,rfl,by decide +kernel,by decide +kernel⟩
abbrev Cj:Stmt:=top 103
theorem rN:ak ["_law_deeds","_law_cell","_law_low","_law_some","_law_thing_here","_law_at"] ["_law_deeds","_law_cell","_law_low"] (Yi Cj):=⟨rfl,rfl,rfl,by decide +kernel,rfl,by decide +kernel,by decide +kernel⟩
abbrev rO:Stmt:=top 104
theorem Ck:ak ["_law_bad","_law_begin","_law_done"] ["_law_bad"] (Yi rO):=⟨rfl,rfl,rfl,by decide +kernel,rfl,by decide +kernel,by decide +kernel⟩
abbrev Cm:Stmt:=top 105
theorem ZR:ak ["_law_book","_law_things","_law_bad","_law_one","_law_other","_law_found","_law_e"] ["_law_book","_law_things","_law_bad"] (Yi Cm):=⟨rfl,rfl,rfl,by decide +kernel,rfl,by decide +kernel,by decide +kernel⟩
abbrev Cp:Stmt:=top 106
theorem vW:ak ["_law_book","_law_things","_law_bad","_law_low","_law_kept","_law_good","_law_found"] ["_law_book","_law_things","_law_bad","_law_low"] (Yi Cp):=⟨rfl,rfl,rfl,by decide +kernel,rfl,by decide +kernel,by decide +kernel⟩
abbrev QS:Stmt:=top 107
theorem XS:ak ["_law_script","_law_cell","_law_low","_law_part","_law_book","_law_deeds","_law_bad","_law_more","_law_one","_law_other","_law_found"] ["_law_script"] (Yi QS):=⟨rfl,rfl,rfl,by decide +kernel,rfl,by decide +kernel,by decide +kernel⟩
abbrev Cr:Stmt:=Y8 (top 75) 0
theorem Z3G:ak ["self","book"] ["self","book"] (Yi Cr):=⟨rfl,rfl,rfl,by decide +kernel,rfl,by decide +kernel,by decide +kernel⟩
abbrev Cu:Stmt:=Y8 (top 75) 1
theorem Z3H:ak ["self","shape"] ["self","shape"] (Yi Cu):=⟨rfl,rfl,rfl,by decide +kernel,rfl,by decide +kernel,by decide +kernel⟩
abbrev Cv:Stmt:=Y8 (top 75) 3
theorem Cw:ak ["self","shape","kind","parts"] ["self","shape"] (Yi Cv):=⟨rfl,rfl,rfl,by decide +kernel,rfl,by decide +kernel,by decide +kernel⟩
abbrev Cy:Stmt:=Y8 (top 66) 0
theorem Z2d:ak ["self","low","high"] ["self","low","high"] (Yi Cy):=⟨rfl,rfl,rfl,by decide +kernel,rfl,by decide +kernel,by decide +kernel⟩
abbrev CG:Stmt:=Y8 (top 66) 1
theorem M9:ak ["self","size","greatest"] ["self","size"] (Yi CG):=⟨rfl,rfl,rfl,by decide +kernel,rfl,by decide +kernel,by decide +kernel⟩
abbrev CJ:Stmt:=Y8 (top 66) 2
theorem Z2e:ak ["self","size","number"] ["self","size","number"] (Yi CJ):=⟨rfl,rfl,rfl,by decide +kernel,rfl,by decide +kernel,by decide +kernel⟩
abbrev CK:Stmt:=Y8 (top 61) 0
theorem Z2R:ak ["self","parts"] ["self","parts"] (Yi CK):=⟨rfl,rfl,rfl,by decide +kernel,rfl,by decide +kernel,by decide +kernel⟩
abbrev CN:Stmt:=Y8 (top 61) 1
theorem Z3e:ak ["self","place","left"] ["self","place","left"] (Yi CN):=⟨rfl,rfl,rfl,by decide +kernel,rfl,by decide +kernel,by decide +kernel⟩
abbrev CP:Stmt:=Y8 (top 61) 2
theorem Nb:ak ["self","size","place"] ["self","size"] (Yi CP):=⟨rfl,rfl,rfl,by decide +kernel,rfl,by decide +kernel,by decide +kernel⟩
abbrev CQ:Stmt:=Y8 (top 68) 0
theorem Z2S:ak ["self","parts"] ["self","parts"] (Yi CQ):=⟨rfl,rfl,rfl,by decide +kernel,rfl,by decide +kernel,by decide +kernel⟩
abbrev CT:Stmt:=Y8 (top 68) 1
theorem Z2T:ak ["self","size"] ["self","size"] (Yi CT):=⟨rfl,rfl,rfl,by decide +kernel,rfl,by decide +kernel,by decide +kernel⟩
abbrev CW:Stmt:=Y8 (top 68) 2
theorem Zx:ak ["self","size","number","things","left","rest","place","part","found"] ["self","size","number"] (Yi CW):=⟨rfl,rfl,rfl,by decide +kernel,rfl,by decide +kernel,by decide +kernel⟩
abbrev CZ:Stmt:=Y8 (top 85) 0
theorem Z3f:ak ["self","book"] ["self","book"] (Yi CZ):=⟨rfl,rfl,rfl,by decide +kernel,rfl,by decide +kernel,by decide +kernel⟩
abbrev Dc:Stmt:=Y8 (top 85) 1
theorem ZN:ak ["self","shape","value","inner","part","thing"] ["self","shape","value"] (Yi Dc):=⟨rfl,rfl,rfl,by decide +kernel,rfl,by decide +kernel,by decide +kernel⟩
abbrev Df:Stmt:=Y8 (top 85) 2
theorem Dg:ak ["self","shape","value","inner","kind","steps"] ["self","shape","value","inner"] (Yi Df):=⟨rfl,rfl,rfl,by decide +kernel,rfl,by decide +kernel,by decide +kernel⟩
abbrev ZZ:Stmt:=Y8 (top 85) 3
theorem Zr:ak ["self","shape","value","below","steps","mark","part","least"] ["self","shape","value"] (Yi ZZ):=⟨rfl,rfl,rfl,by decide +kernel,rfl,by decide +kernel,by decide +kernel⟩
abbrev Dh:Stmt:=Y8 (top 64) 0
theorem Z3Z:ak ["self"] ["self"] (Yi Dh):=⟨rfl,rfl,rfl,by decide +kernel,rfl,by decide +kernel,by decide +kernel⟩
abbrev Di:Stmt:=Y8 (top 64) 1
theorem Z2f:ak ["self","size"] ["self","size"] (Yi Di):=⟨rfl,rfl,rfl,by decide +kernel,rfl,by decide +kernel,by decide +kernel⟩
abbrev Dj:Stmt:=Y8 (top 64) 1
theorem Z2U:ak ["self","size"] ["self","size"] (Yi Dj):=⟨rfl,rfl,rfl,by decide +kernel,rfl,by decide +kernel,by decide +kernel⟩
abbrev Dk:Stmt:=Y8 (top 12) 0
theorem Z3g:ak ["self","value"] ["self","value"] (Yi Dk):=⟨rfl,rfl,rfl,by decide +kernel,rfl,by decide +kernel,by decide +kernel⟩
theorem Z3h {g:Gx} {C B:Addr} (R:g.jN "NoValue" C "NoValue.__init__" Dk ["self","value"]) (b:mH g "CountError" B) (xf:m7 g.K C B) (uR:bS g.K (.ref C) "value"=some none):g.vM "NoValue" C ["self","value"] ["value"]:=by
 refine R.maX Z3g (fun vs H Q E h=>YfA h) fun f_ cdv A outer s H vs Q E hr h=>?_
 refine ⟨_,Yd (Xc (Yee b R.own (Ya (pv 0) (Ya Yx Yc)))) (Yf (Yfz xf uR (pv 0) (pv 1))),?_⟩;exact Iv h
abbrev vX:Expr:=R4 (QP vO 0)
theorem Z40:dU ["deeds","model_done","model_begin","done","begin"] ["deeds"] ["model_done","model_begin","done","begin"] (Vz vX):=⟨rfl,rfl,rfl,by decide +kernel,rfl,rfl,by decide,by decide +kernel,by decide +kernel,by decide +kernel,by decide +kernel⟩
abbrev ZF:Str:="deed_judge.<locals>.<lambda>"
theorem Uc:((("deed_judge":Str)++(".<locals>.":Str))++("<lambda>":Str))=ZF:=by decide +kernel
abbrev vY (cl:List (Str×Addr)) (c:Addr) (pm ctv:Α):FuncData:=j3 "<lambda>" ZF (Lw vX) (Lx vX) (Vz vX) cl pm (.ref c) ctv
abbrev ZW:Expr:=Iw (QP rM 3)
theorem Z3i:dU ["breach","many","book"] ["breach"] ["many","book"] (Vz ZW):=⟨rfl,rfl,rfl,by decide +kernel,rfl,rfl,by decide,by decide +kernel,by decide +kernel,by decide +kernel,by decide +kernel⟩
abbrev ZA:Str:="shrunk_deeds.<locals>.<lambda>"
theorem VH:((("shrunk_deeds":Str)++(".<locals>.":Str))++("<lambda>":Str))=ZA:=by decide +kernel
abbrev ZE (cl:List (Str×Addr)) (c:Addr) (pm ctv:Α):FuncData:=j3 "<lambda>" ZA (Lw ZW) (Lx ZW) (Vz ZW) cl pm (.ref c) ctv
abbrev ZI:Stmt:=QP rO 0
theorem Z22:dU [] [] [] (Yi ZI):=⟨rfl,rfl,rfl,by decide +kernel,rfl,rfl,by decide,by decide +kernel,by decide +kernel,by decide +kernel,by decide +kernel⟩
abbrev Zt:Str:="_law_thing.<locals>._law_begin"
theorem WY:((("_law_thing":Str)++(".<locals>.":Str))++("_law_begin":Str))=Zt:=by decide +kernel
abbrev ZD (cl:List (Str×Addr)) (c:Addr) (doc pm ctv:Α):FuncData:=W.fnX "_law_begin" Zt (Y9 ZI) (YV ZI) (Yi ZI) cl .none .none doc pm none (.ref c) ctv
abbrev ZO:Stmt:=QP rO 1
theorem Z2g:dU ["_law_state","_law_deed_here","_law_bad"] ["_law_state","_law_deed_here"] ["_law_bad"] (Yi ZO):=⟨rfl,rfl,rfl,by decide +kernel,rfl,rfl,by decide,by decide +kernel,by decide +kernel,by decide +kernel,by decide +kernel⟩
abbrev Zv:Str:="_law_thing.<locals>._law_done"
theorem Ve:((("_law_thing":Str)++(".<locals>.":Str))++("_law_done":Str))=Zv:=by decide +kernel
abbrev ZJ (cl:List (Str×Addr)) (c:Addr) (doc pm ctv:Α):FuncData:=W.fnX "_law_done" Zv (Y9 ZO) (YV ZO) (Yi ZO) cl .none .none doc pm none (.ref c) ctv
variable {g:Gx}
local macro_rules | `(tactic| walk_at "rd")=>`(tactic| (dsimp (config:={ failIfUnchanged:=false }) only [L2.Xw,Km,Ko,aS,ip,ai,fk,List.cons_append,List.nil_append,List.replicate_succ,List.replicate_zero,Nat.reduceAdd,Nat.reduceSub,Uh,QV,V1,lA,tC,Vs,jO,rI,rU,yW,uo,Jz,QL,Uw,Jx,Jy,u9,YW,UC,Q1,pF,V3,zV,KN,Q9,uG,uF,QN,QM,Ends.gone,tB,yK,yL,um,yM,yN,yO,yP,Uz,UU,zu,zx,QW,yS,uJ,vo,vp,uI,uH,ur,uO,Kv,zU,Ks,Ka,J6,J7,La,z9,Lb,Am,U6,zT,Kr,zy,zB,uL,UW,Q4,rz,za,uM,J0,yR,JD,YJ,List.getD_cons_zero,List.getD_cons_succ,List.getElem?_cons_zero,List.getElem?_cons_succ,List.set_cons_zero,List.set_cons_succ,Js,Jt,Jm,Jo,Jp,Jq,Jr,uK,zN,zj,zm,JK,JL];simp (config:={ failIfUnchanged:=false,maxSteps:=10000000 }) only [L2.Xw,Km,Ko,aS,ip,ai,fk,List.cons_append,List.nil_append,List.replicate_succ,List.replicate_zero,Nat.zero_add,Nat.reduceAdd,Nat.reduceSub,eJ,Uh,QV,V1,lA,tC,Vs,jO,rI,rU,yW,uo,Jz,QL,Uw,Jx,Jy,u9,YW,yQ,JC,UC,Q1,pF,V3,zV,KN,Q9,uG,uF,QN,QM,Ends.gone,YdW,tB,yK,yL,um,yM,yN,yO,yP,Uz,UU,zu,zx,QW,yS,uJ,vo,vp,uI,uH,ur,uO,Kv,zU,Ks,Ka,J6,J7,La,z9,Lb,Am,U6,zT,Kr,zy,zB,uL,UW,Q4,rz,za,Yfi,Yfj,uM,J0,yR,JD,YJ,List.getD_cons_zero,List.getD_cons_succ,decide_true,not_true_eq_false,not_false_eq_true,exists_eq_left',exists_eq_left,exists_eq',exists_eq,exists_and_left,and_assoc,Option.some.injEq,V.int.injEq,V.bl.injEq,V.ref.injEq,V.str.injEq,List.getElem?_cons_zero,List.getElem?_cons_succ,List.set_cons_zero,List.set_cons_succ,List.cons.injEq,and_true,true_and,bi,decide_eq_true_eq,Bool.not_eq_true',decide_eq_false_iff_not,Bool.not_not,Bool.not_true,Bool.not_false,Bool.true_eq_false,eh,if_true,if_false,ite_true,ite_false,Js,Jt,Jm,Jo,Jp,Jq,Jr,uK,zN,zj,zm,JK,JL,UT,VI,WQ,yZ]))
theorem cm {i j:Int} {m n:Nat} (h1:i.natAbs<2^m) (h2:j.natAbs<2^n) (h:m+n<=100000000:=by decide):QO i j:=⟨m,n,h1,h2,h⟩
theorem vZ {i j:Int} (h:0<=j/\j<=1000000/\i.natAbs<2^64:=by decide):uD i j:=h
theorem few {n:Nat} (h:n<=100000):n<=sizeLine:=ap h (by decide)
theorem YfF (x:Int) {j:Int} (h:0<j):∃ r:Nat,x%j=r/\(r:Int)<j:=⟨(x%j).toNat,by have:=jS x (Int.ne_of_gt h);omega,by have:=Int.emod_lt_of_pos x h;have:=jS x (Int.ne_of_gt h);omega⟩
inductive Dd
 | ask
 | put (o:Nat)
def jW (o:Nat):Nat:=eQ (o:Int)
def dY:Dd->Nat
 | .put o=>jW o
 | _=>0
def dB:Dd->Prop
 | .put o=>o<=7
 | _=>True
def bx:Nat->Str
 | 0=>"ask"
 | _=>"put"
def dk:Dd->Nat
 | .ask=>0
 | .put _=>1
def Y6 (H:Hp) (lo:Int) (v:V):Dd->Prop
 | .put o=>∃ a,v = .ref a/\H a=some (.tup [.str (bx 1),.int (lo+o)])
 | .ask=>∃ a b,v = .ref a/\H a=some (.tup [.str (bx 0),.ref b])/\H b=some (.tup [])
def Tp (H H':Hp):Prop:=∀ b xs,H b=some (.tup xs)->H' b=some (.tup xs)
theorem YX {H H':Hp} (k:Kt H H'):Tp H H':=fun _ _ e=>k.tup e
theorem Tp.trans {H H1 H2:Hp} (a:Tp H H1) (b:Tp H1 H2):Tp H H2:=fun c o e=>b c o (a c o e)
theorem WH {H:Hp} {p:Addr} {xs ys:List V} (h:H p=some (.lst xs)):Tp H (upd H p (.lst ys)):=fun b zs e=>by rw [Ye (YE e h (by intro z;cases z))];exact e
theorem Y6.tp {H H':Hp} (k:Tp H H') {lo:Int} {v:V} {x:Dd} (h:Y6 H lo v x):Y6 H' lo v x:=by
 cases x with
 | put o=>obtain ⟨a,e,h⟩:=h;exact ⟨a,e,k _ _ h⟩
 | ask=>obtain ⟨a,b,e,h,h2⟩:=h;exact ⟨a,b,e,k _ _ h,k _ _ h2⟩
inductive Sd
 | wh | aX | pk | us | aN
 deriving DecidableEq
def lE:Nat->Sd
 | 0 => .aX
 | _ => .wh
abbrev m8 (lo:Int):List V:=[.str "whole",.int lo,.int (lo+7)]
structure kW (H:Hp) (lo:Int) (b c0 c1 p0 p1 e0:Addr):Prop where
 b:H b=some (.tup [.ref c0,.ref c1])
 c0:H c0=some (.tup [.str (bx 0),.ref p0])
 c1:H c1=some (.tup [.str (bx 1),.ref p1])
 p0:H p0=some (.tup [.str "row",.ref e0])
 e0:H e0=some (.tup [])
 p1:H p1=some (.tup (m8 lo))
def Y7 (H:Hp) (lo:Int) (a:Addr):Sd->Prop
 | .wh=>H a=some (.tup (m8 lo))
 | .aX=>∃ b,H a=some (.tup [.str "row",.ref b])/\H b=some (.tup [])
 | .pk=>∃ b c0 c1 p0 p1 e0,H a=some (.tup [.str "pick",.ref b])/\kW H lo b c0 c1 p0 p1 e0
 | .us=>H a=some (.tup [.str "use",.str "deed"])
 | .aN=>∃ e,H a=some (.tup [.str "many",.ref e])/\H e=some (.tup [.str "use",.str "deed"])
theorem kW.tp {H H':Hp} (k:Tp H H') {lo:Int} {b c0 c1 p0 p1 e0:Addr} (h:kW H lo b c0 c1 p0 p1 e0):kW H' lo b c0 c1 p0 p1 e0:=⟨k _ _ h.b,k _ _ h.c0,k _ _ h.c1,k _ _ h.p0,k _ _ h.e0,k _ _ h.p1⟩
theorem Y7.tp {H H':Hp} (k:Tp H H') {lo:Int} {a:Addr} {s:Sd} (h:Y7 H lo a s):Y7 H' lo a s:=by
 cases s with
 | wh=>exact k _ _ h
 | aX=>obtain ⟨b,h1,h2⟩:=h;exact ⟨b,k _ _ h1,k _ _ h2⟩
 | pk=>obtain ⟨b,c0,c1,p0,p1,e0,h1,h2⟩:=h;exact ⟨b,c0,c1,p0,p1,e0,k _ _ h1,h2.tp k⟩
 | us=>exact k _ _ h
 | aN=>obtain ⟨e,h1,h2⟩:=h;exact ⟨e,k _ _ h1,k _ _ h2⟩
theorem Y7.kt {H H':Hp} (k:Kt H H') {lo:Int} {a:Addr} {s:Sd} (h:Y7 H lo a s):Y7 H' lo a s:=h.tp (YX k)
structure cX (H:Hp) (lo:Int) (B:Addr):Prop where
 ex:∃ p m,H B=some (.lst [.ref p])/\H p=some (.tup [.str "deed",.ref m])/\Y7 H lo m .pk
theorem cX.kt {H H':Hp} (k:Kt H H') {lo:Int} {B:Addr} (h:cX H lo B):cX H' lo B:=by
 obtain ⟨p,m,h1,h2,h3⟩:=h.ex;exact ⟨p,m,k.lst h1,k.tup h2,h3.tp (YX k)⟩
inductive iG (H:Hp):V->Prop
 | non:iG H .non
 | bl (b:Bool):iG H (.bl b)
 | int (i:Int):iG H (.int i)
 | str (z:Str):iG H (.str z)
 | lst (a:Addr) (us:List V) (h:H a=some (.lst us)):iG H (.ref a)
 | dg (a:Addr) (h:H a=some (.dK [])):iG H (.ref a)
inductive m9 (H:Hp):V->Prop
 | not (v:V) (h:iG H v):m9 H v
 | one (a:Addr) (v:V) (h:H a=some (.tup [v])):m9 H (.ref a)
 | mk (a:Addr) (z:Str) (u:V) (h:H a=some (.tup [.str z,u])) (n0:z≠bx 0) (n1:z≠bx 1):m9 H (.ref a)
inductive jf (H:Hp):V->Prop
 | non:jf H .non
 | bl (b:Bool):jf H (.bl b)
 | str (z:Str):jf H (.str z)
 | tup (a:Addr) (us:List V) (h:H a=some (.tup us)):jf H (.ref a)
 | dg (a:Addr) (h:H a=some (.dK [])):jf H (.ref a)
inductive Vx (H:Hp) (lo:Int):Sd->V->Option Nat->Prop
 | wh (o:Nat) (h:o<=7):Vx H lo .wh (.int (lo+o)) (some (jW o))
 | jl (i:Int) (h:¬ (lo<=i/\i<=lo+7)):Vx H lo .wh (.int i) none
 | jG (z:Str):Vx H lo .wh (.str z) none
 | aX (b:Addr) (h:H b=some (.tup [])):Vx H lo .aX (.ref b) (some 0)
 | jH (b:Addr) (h:H b=some (.lst [])):Vx H lo .aX (.ref b) none
 | gF (v:V) (h:m9 H v):Vx H lo .pk v none
 | pk (a:Addr) (m:Nat) (u:V) (r:Option Nat) (hm:m<2) (h:H a=some (.tup [.str (bx m),u])) (hu:Vx H lo (lE m) u r):Vx H lo .pk (.ref a) r
 | us (v:V) (r:Option Nat) (h:Vx H lo .pk v r):Vx H lo .us v (r.map (1+·))
 | dF (v:V) (h:jf H v):Vx H lo .aN v none
 | aN (D:Addr) (us:List V) (rs:List (Option Nat)) (h:H D=some (.lst us)) (l:us.length=rs.length) (hl:us.length<=100) (h2:∀ (i:Nat) u r,us[i]?=some u->rs[i]?=some r->Vx H lo .us u r) (r:Option Nat) (hr:r=if rs.all eS then some (rs.length+(rs.map fun z=>z.getD 0).sum) else none):Vx H lo .aN (.ref D) r
def jg:Sd->Nat
 | .wh=>1 | .aX=>1 | .pk=>2 | .us=>3 | .aN=>4
theorem Dl {H H':Hp} (k:Kt H H') {a:Addr} (h:H a=some (.dK [])):H' a=some (.dK []):=k _ _ (fun ps z=>by cases z) h
theorem iG.kt {H H':Hp} (k:Kt H H') {v:V} (h:iG H v):iG H' v:=by
 cases h with
 | non=>exact .non
 | bl b=>exact .bl b
 | int i=>exact .int i
 | str z=>exact .str z
 | lst a us h=>exact .lst a us (k.lst h)
 | dg a h=>exact .dg a (Dl k h)
theorem m9.kt {H H':Hp} (k:Kt H H') {v:V} (h:m9 H v):m9 H' v:=by
 cases h with
 | not v h=>exact .not v (h.kt k)
 | one a v h=>exact .one a v (k.tup h)
 | mk a z u h n0 n1=>exact .mk a z u (k.tup h) n0 n1
theorem jf.kt {H H':Hp} (k:Kt H H') {v:V} (h:jf H v):jf H' v:=by
 cases h with
 | non=>exact .non
 | bl b=>exact .bl b
 | str z=>exact .str z
 | tup a us h=>exact .tup a us (k.tup h)
 | dg a h=>exact .dg a (Dl k h)
theorem Vx.kt {H H':Hp} (k:Kt H H') {lo:Int} {s:Sd} {v:V} {r:Option Nat} (h:Vx H lo s v r):Vx H' lo s v r:=by
 induction h with
 | wh o h=>exact .wh o h
 | jl i h=>exact .jl i h
 | jG z=>exact .jG z
 | aX b h=>exact .aX b (k.tup h)
 | jH b h=>exact .jH b (k.lst h)
 | gF v h=>exact .gF v (h.kt k)
 | pk a m u r hm h _ ih=>exact .pk a m u r hm (k.tup h) ih
 | us v r _ ih=>exact .us v r ih
 | dF v h=>exact .dF v (h.kt k)
 | aN D us rs h l hl _ r hr ih=>exact .aN D us rs (k.lst h) l hl ih r hr
theorem aR {x y:Str} {i:Nat} {t Y2:TS} {D:Ends} {σ:St} {H:Hp} (hσ:σ[i]?=some (some (.str x))) (h:¬ x=y) (hr:Y2 D σ H):Uh (QV (V1 (lA rz (Vs i) (tC (.str y)))) t Uw) Y2 D σ H:=by
 refine Uv hσ ?_
 show if decide (x=y)=true then _ else _
 rw [if_neg (by simpa using h)];exact hr
theorem d9 {x y:Str} {i:Nat} {t Y2:TS} {D:Ends} {σ:St} {H:Hp} (hσ:σ[i]?=some (some (.str x))) (h:x=y) (ht:t { D with nx:=Y2 D } σ H):Uh (QV (V1 (lA rz (Vs i) (tC (.str y)))) t Uw) Y2 D σ H:=by
 refine Uv hσ ?_
 show if decide (x=y)=true then _ else _
 rw [if_pos (by simpa using h)];exact ht
inductive pN (vs:List V) (H:Hp) (Q:VK) (E_:XK):Prop
 | mk (B:Addr) (lo:Int) (h0:vs=[.ref B,.str "deed"]) (h1:cX H lo B) (h2:∀ m,Y7 H lo m .pk->Q (.ref m) H)
theorem YaM  (R:g.Raw "shape_of" "shape_of" Av ["book","name"]):g.Fn (1) "shape_of" ["book","name"] (pN):=by
 refine R.fn MN (fun vs H Q E h=>by obtain ⟨B,lo,rfl,hB,q⟩:=h;rfl) fun f_ cdv A outer s H vs Q E hr h=>?_
 obtain ⟨B,lo,rfl,hB,q⟩:=h;refine ⟨_,(@Yd _ _ _ _ _ (@XE _ _ _ _ _ _ _ _ av rfl (@Xe _ _ _ _ (pv 0)) (@YD _ _ (2) _ MN.nd rfl (.inl rfl) (by first | exact .inl rfl | exact .inr rfl | assumption)) (@Yf _ _ _ (@Yy _ _ _ _ _ _ _ _ (@Yt _ _ _ _ _ _ _ _ YQ (@Yu _ _ _ _ _ _ _ Yw (pv 2) Yh (fun _ _=>rfl)) (pv 1) (Yq _)) (@Yf _ _ _ (@Yl _ _ _ _ (@Yu _ _ _ _ _ _ _ Yw (pv 2) Yh (fun _ _=>rfl)))) Yp)) (by intro _;rfl)) (@Yf _ _ _ YI)),?_⟩;obtain ⟨p,m,h1,h2,h3⟩:=hB.ex;refine Ym fun R rr=>?_
 refine UI (K:=g.K) (xs:=[.ref p]) (fun c i σ H'=>c=B/\(∃ o,σ=[some (.ref B),some (.str "deed"),o])/\H'=H/\i=0) (fun R r=>by walk_at "rd";exact r B _ ⟨rfl,⟨_,rfl⟩,rfl,rfl⟩) (fun c i σ H' _ ⟨e,_,e2,_⟩=>by subst e;rw [e2];exact aA.of h1) ?_ ?_
 ·rintro c i x σ H' hx ⟨rfl,⟨o,rfl⟩,rfl,rfl⟩
  cases Ε hx
  walk_at "rd";exact ⟨_,aq.of h2,_,Yk (j:=0) rfl,rfl,Y3 rfl ⟨_,aq.of h2,_,Yk (j:=1) rfl,q m h3⟩⟩
 ·rintro c σ H' ⟨_,_,_,h⟩
  cases h
inductive An
 | non
 | bl (b:Bool)
 | int (i:Int)
 | str (s:Str)
def An.v:An->V
 | .non => .non
 | .bl b => .bl b
 | .int i => .int i
 | .str s => .str s
def An.isI:An->Bool
 | .int _=>true
 | _=>false
inductive ni (p:An->Bool) (vs:List V) (H:Hp) (Q:VK) (E_:XK):Prop
 | mk (a:An) (h0:vs=[a.v]) (h1:Q (.bl (p a)) H)
def VY:Sp:=ni An.isI
theorem Z3I  (R:g.Raw "is_whole_number" "is_whole_number" Aw ["thing"]) (dN:g.mg "bool"=none) (dI:g.mg "int"=none) (Z3:g.mg "isinstance"=none):g.Fn (1) "is_whole_number" ["thing"] (VY):=by
 refine R.fn Z3A (fun vs H Q E h=>by obtain ⟨a,rfl,q⟩:=h;rfl) fun f_ cdv A outer s H vs Q E hr h=>?_
 obtain ⟨a,rfl,q⟩:=h;refine ⟨_,(@Yf _ _ _ (@Yl _ _ _ _ (@XA _ _ _ _ _ _ _ (@YA _ _ _ _ _ _ _ _ _ _ Z3 YL (@Ya _ _ _ _ _ (pv 0) (@Ya _ _ _ _ _ (@Xq _ _ _ _ ("int") dI (by decide +kernel) (by rfl) (by rfl) (by decide) (by decide)) Yc (by rfl)) (by rfl)) (by decide +kernel) (by rfl) (by rfl) (by decide) (by decide) (by rfl) (by rfl)) (@XQ _ _ _ _ _ (@VJ _ _ _ _ (@YA _ _ _ _ _ _ _ _ _ _ Z3 YL (@Ya _ _ _ _ _ (pv 0) (@Ya _ _ _ _ _ (@Xq _ _ _ _ ("bool") dN (by decide +kernel) (by rfl) (by rfl) (by decide) (by decide)) Yc (by rfl)) (by rfl)) (by decide +kernel) (by rfl) (by rfl) (by decide) (by decide) (by rfl) (by rfl))))))),?_⟩;walk_at "rd"
 cases a with
 | non=>exact ⟨_,rfl,_,.non,false,rfl,q⟩
 | bl b=>exact ⟨_,rfl,_,.bl b,true,rfl,VQ ⟨_,rfl,_,.bl b,true,rfl,q⟩⟩
 | int i=>exact ⟨_,rfl,_,.int i,true,rfl,VQ ⟨_,rfl,_,.int i,false,rfl,q⟩⟩
 | str z=>exact ⟨_,rfl,_,.str z,false,rfl,q⟩
def pO (z:Str):V:=if z=bx 0 then .int 0 else if z=bx 1 then .int 1 else .non
inductive jX (vs:List V) (H:Hp) (Q:VK) (E_:XK):Prop
 | mk (lo:Int) (z:Str) (b c0 c1 p0 p1 e0:Addr) (h0:vs=[.ref b,.str z]) (h1:kW H lo b c0 c1 p0 p1 e0) (h2:∀ H',Yg H H'->Q (pO z) H')
theorem Z4q  (R:g.Raw "branch_place" "branch_place" Ax ["branches","mark"]) (Zq:g.mg "enumerate"=none):g.Fn (1) "branch_place" ["branches","mark"] (jX):=by
 refine R.fn Ay (fun vs H Q E h=>by obtain ⟨lo,z,b,c0,c1,p0,p1,e0,rfl,hP,q⟩:=h;rfl) fun f_ cdv A outer s H vs Q E hr h=>?_
 obtain ⟨lo,z,b,c0,c1,p0,p1,e0,rfl,hP,q⟩:=h;refine ⟨_,(@Yd _ _ _ _ _ (@XE _ _ _ _ _ _ _ _ av rfl (@YdS _ _ _ _ _ _ _ _ rfl Zq (@Ya _ _ _ _ _ (pv 0) Yc (by rfl)) (by rfl)) (@WD _ _ _ _ _ (2) rfl (@Xb _ _ _ _ _ (@YD _ _ (2) _ Ay.nd rfl (.inl rfl) (by first | exact .inl rfl | exact .inr rfl | assumption)) (@Xb _ _ _ _ _ (@YD _ _ (3) _ Ay.nd rfl (.inl rfl) (by first | exact .inl rfl | exact .inr rfl | assumption)) X9 (by rfl)) (by rfl)) (by rfl) (by rfl)) (@Yf _ _ _ (@Yy _ _ _ _ _ _ _ _ (@Yt _ _ _ _ _ _ _ _ YQ (@Yu _ _ _ _ _ _ _ Yw (pv 3) Yh (fun _ _=>rfl)) (pv 1) (Yq _)) (@Yf _ _ _ (@Yl _ _ _ _ (pv 2))) Yp)) (by intro _;rfl)) (@Yf _ _ _ (@Yl _ _ _ _ Xk))),?_⟩;refine Ym fun R rr=>?_
 refine YbX (K:=g.K) (xs:=[.ref c0,.ref c1]) (fun i σ H'=>∃ o2 o3,σ=[some (.ref b),some (.str z),o2,o3]/\Yg H H'/\∀ j<i,z≠bx j) (fun R r=>by walk_at "rd";exact r) ⟨_,_,rfl,.refl H,(fun j h=>by omega)⟩ (fun i σ H' hi ⟨o2,o3,_,sm,_⟩=>aq.of (sm _ _ hP.b)) ?_ ?_
 ·rintro i v σ H' T hv ⟨o2,o3,rfl,sm,hno⟩ hT
  obtain ⟨c,p,rfl,hc,hi⟩:∃ c p,v = .ref c/\H c=some (.tup [.str (bx i),.ref p])/\i<2:=by
   match i,hv with
   | 0,hv=>exact ⟨c0,p0,(Ε hv).symm,hP.c0,by decide⟩
   | 1,hv=>exact ⟨c1,p1,(Ε hv).symm,hP.c1,by decide⟩
  have s2:=sm.trans (.aj hT (.tup [.int (i:Int),.ref c]));refine ⟨T,_,rfl,aq.of Yb,rfl,_,_,rfl,_,_,rfl,rfl,?_⟩;walk_at "rd";refine ⟨_,aq.of (s2 _ _ hc),_,Yk (j:=0) rfl,rfl,?_⟩;by_cases cc:bx i=z
  ·rw [if_pos (by rw [cc])]
   have:=q _ s2;rw [show pO z = .int (i:Int) from ?_] at this
   ·exact this
   ·subst cc
    match i,hi with
    | 0,_=>rfl
    | 1,_=>rfl
  ·rw [if_neg (fun e=>cc (V.str.inj e))]
   exact ⟨s2,fun j hj=>by
    by_cases e:j=i
    ·rw [e];exact ψ cc
    ·exact hno j (by omega)⟩
 ·rintro σ H' ⟨o2,o3,rfl,sm,hno⟩
  refine rr _ _ ?_;walk_at "rd";have:=q H' sm;rw [pO,if_neg (hno 0 (by simp)),if_neg (hno 1 (by simp))] at this
  exact this
inductive nj (H:Hp):V->Bool->Prop
 | not (v:V) (h:iG H v):nj H v false
 | one (a:Addr) (v:V) (h:H a=some (.tup [v])):nj H (.ref a) false
 | tw (a:Addr) (z:Str) (u:V) (h:H a=some (.tup [.str z,u])):nj H (.ref a) (!decide (pO z = .non))
theorem iG.ty {K:Ι} {H:Hp} {v:V} (h:iG H v):∃ t,d7 K H v t/\γ K t (.type "tuple")=some false:=by
 cases h with
 | non=>exact ⟨_,.non,rfl⟩
 | bl b=>exact ⟨_,.bl b,rfl⟩
 | int i=>exact ⟨_,.int i,rfl⟩
 | str z=>exact ⟨_,.str z,rfl⟩
 | lst a us h=>exact ⟨_,.lst h,rfl⟩
 | dg a h=>exact ⟨_,.dK h,rfl⟩
inductive v7 (vs:List V) (H:Hp) (Q:VK) (E_:XK):Prop
 | mk (lo:Int) (b c0 c1 p0 p1 e0:Addr) (v:V) (r:Bool) (h0:vs=[.ref b,v]) (h1:kW H lo b c0 c1 p0 p1 e0) (h2:nj H v r) (h3:∀ H',Yg H H'->Q (.bl r) H')
theorem YaN {k:Nat}  (R:g.Raw "has_mark" "has_mark" Az ["branches","value"]) (ZG:g.Fn k "branch_place" ["branches","mark"] (jX)) (Z3:g.mg "isinstance"=none) (aH:g.mg "len"=none) (eN:g.mg "str"=none) (Zf:g.mg "tuple"=none):g.Fn (k+1) "has_mark" ["branches","value"] (v7):=by
 refine R.fn YaH (fun vs H Q E h=>by obtain ⟨lo,b,c0,c1,p0,p1,e0,v,r,rfl,hP,hv,q⟩:=h;rfl) fun f_ cdv A outer s H vs Q E hr h=>?_
 obtain ⟨lo,b,c0,c1,p0,p1,e0,v,r,rfl,hP,hv,q⟩:=h;refine ⟨_,(@Yd _ _ _ _ _ (@Yy _ _ _ _ _ _ _ _ (@XN _ _ _ _ _ _ _ (@Xt _ _ _ _ (@YT _ _ _ (@YA _ _ _ _ _ _ _ _ _ _ Z3 YL (@Ya _ _ _ _ _ (pv 1) (@Ya _ _ _ _ _ (@Xq _ _ _ _ ("tuple") Zf (by decide +kernel) (by rfl) (by rfl) (by decide) (by decide)) Yc (by rfl)) (by rfl)) (by decide +kernel) (by rfl) (by rfl) (by decide) (by decide) (by rfl) (by rfl)) (by intro _;rfl))) (@WC _ _ _ _ (@Yt _ _ _ _ _ _ _ _ JT (@YA _ _ _ _ _ _ _ _ _ _ aH YF (@Ya _ _ _ _ _ (pv 1) Yc (by rfl)) (by decide +kernel) (by rfl) (by rfl) (by decide) (by decide) (by rfl) (by rfl)) Yh (Yq _)))).pt (@Yf _ _ _ (@Yl _ _ _ _ XT)) Yp) (@Yf _ _ _ (@Yl _ _ _ _ (@XA _ _ _ _ _ _ _ (@YA _ _ _ _ _ _ _ _ _ _ Z3 YL (@Ya _ _ _ _ _ (@Yu _ _ _ _ _ _ _ Yw (pv 1) Yh (fun _ _=>rfl)) (@Ya _ _ _ _ _ (@Xq _ _ _ _ ("str") eN (by decide +kernel) (by rfl) (by rfl) (by decide) (by decide)) Yc (by rfl)) (by rfl)) (by decide +kernel) (by rfl) (by rfl) (by decide) (by decide) (by rfl) (by rfl)) (@XQ _ _ _ _ _ (@Xn _ _ _ _ _ _ _ _ V0 (@Yr _ _ _ _ _ _ _ _ _ _ _ _ ZG hr (@Ya _ _ _ _ _ (pv 0) (@Ya _ _ _ _ _ (@Yu _ _ _ _ _ _ _ Yw (pv 1) Yh (fun _ _=>rfl)) Yc (by rfl)) (by rfl)) (by omega) (by rfl) (by rfl) (by decide) (by rfl) (by rfl)) Xk (Yq _))))))),?_⟩;refine Ym fun R rr=>?_
 cases hv with
 | not v h =>
  walk_at "rd";obtain ⟨t,h1,h2⟩:=h.ty (K:=g.K);exact ⟨_,rfl,t,h1,false,h2,Y3 rfl (q H (.refl _))⟩
 | one a v h =>
  walk_at "rd";refine ⟨_,rfl,_,.tup h,true,rfl,YC (by decide) ⟨_,.inr (aq.of h),Y3 (by simp) (q H (.refl _))⟩⟩
 | tw a z u h =>
  walk_at "rd";refine ⟨_,rfl,_,.tup h,true,rfl,YC (by decide) ⟨_,.inr (aq.of h),YC (by simp) (rr _ _ ?_)⟩⟩;walk_at "rd";refine ⟨_,aq.of h,_,Yk (j:=0) rfl,_,rfl,_,.str _,true,rfl,?_⟩;walk_at "rd";refine ⟨_,aq.of h,_,Yk (j:=0) rfl,lo,z,b,c0,c1,p0,p1,e0,rfl,hP,fun H' s=>q H' s⟩
theorem jf.ty {K:Ι} {H:Hp} {v:V} (h:jf H v):∃ t,d7 K H v t/\γ K t (.type "list")=some false:=by
 cases h with
 | non=>exact ⟨_,.non,rfl⟩
 | bl b=>exact ⟨_,.bl b,rfl⟩
 | str z=>exact ⟨_,.str z,rfl⟩
 | tup a us h=>exact ⟨_,.tup h,rfl⟩
 | dg a h=>exact ⟨_,.dK h,rfl⟩
inductive Hf (H:Hp) (lo:Int):Sd->V->Bool->Prop
 | jl (i:Int):Hf H lo .wh (.int i) (decide (lo<=i/\i<=lo+7))
 | jG (z:Str):Hf H lo .wh (.str z) false
 | aX (b:Addr) (h:H b=some (.tup [])):Hf H lo .aX (.ref b) true
 | jH (b:Addr) (h:H b=some (.lst [])):Hf H lo .aX (.ref b) false
 | pk (v:V) (r:Bool) (h:nj H v r):Hf H lo .pk v r
 | us (v:V):Hf H lo .us v true
 | dF (v:V) (h:jf H v):Hf H lo .aN v false
 | aN (D:Addr) (us:List V) (h:H D=some (.lst us)):Hf H lo .aN (.ref D) true
inductive v8 (K:Ι) (vs:List V) (H:Hp) (Q:VK) (E_:XK):Prop
 | mk (lo:Int) (a:Addr) (s:Sd) (v:V) (r:Bool) (h0:vs=[.ref a,v]) (h1:Y7 H lo a s) (h2:Hf H lo s v r) (h3:∀ H',Yg H H'->Q (.bl r) H')
theorem YaO {k:Nat}  (R:g.Raw "has_form" "has_form" Ba ["shape","value"]) (v9:g.Fn k "is_whole_number" ["thing"] (VY)) (qw:g.Fn k "has_mark" ["branches","value"] (v7)) (Z3:g.mg "isinstance"=none) (aH:g.mg "len"=none) (aP:g.mg "list"=none) (Zf:g.mg "tuple"=none) (lF:g.mZ "OF_ONE_PART" ([.str "many",.str "rising",.str "unlike"])):g.Fn (k+1) "has_form" ["shape","value"] (v8 g.K):=by
 refine R.fn MP (fun vs H Q E h=>by obtain ⟨lo,a,s,v,r,rfl,hS,hv,q⟩:=h;rfl) fun f_ cdv A outer s H vs Q E hr h=>?_
 obtain ⟨lo,a,s,v,r,rfl,hS,hv,q⟩:=h;refine ⟨_,(@Yd _ _ _ _ _ (@Yv _ _ (2) _ _ _ _ MP.nd rfl (.inl rfl) (@Yu _ _ _ _ _ _ _ Yw (pv 0) Yh (fun _ _=>rfl)) (by rfl) (by first | exact .inl rfl | exact .inr rfl | assumption)) (@Yd _ _ _ _ _ (@Yy _ _ _ _ _ _ _ _ (@Yt _ _ _ _ _ _ _ _ YQ (pv 2) Yx (Yq _)) (@Yf _ _ _ (@Yl _ _ _ _ (@XA _ _ _ _ _ _ _ (@Yr _ _ _ _ _ _ _ _ _ _ _ _ v9 hr (@Ya _ _ _ _ _ (pv 1) Yc (by rfl)) (by omega) (by rfl) (by rfl) (by decide) (by rfl) (by rfl)) (@XQ _ _ _ _ _ (@QY _ _ _ _ _ _ _ _ _ _ _ _ W1 W1 (@Yu _ _ _ _ _ _ _ Yw (pv 0) Yh (fun _ _=>rfl)) (pv 1) (@Yu _ _ _ _ _ _ _ Yw (pv 0) Yh (fun _ _=>rfl)) (by with_unfolding_all rfl)))))) Yp) (@Yd _ _ _ _ _ (@Yy _ _ _ _ _ _ _ _ (@Yt _ _ _ _ _ _ _ _ YQ (pv 2) Yx (Yq _)) (@Yf _ _ _ YI) Yp) (@Yd _ _ _ _ _ (@Yy _ _ _ _ _ _ _ _ (@Yt _ _ _ _ _ _ _ _ YQ (pv 2) Yx (Yq _)) (@Yf _ _ _ (@Yl _ _ _ _ (@XA _ _ _ _ _ _ _ (@YA _ _ _ _ _ _ _ _ _ _ Z3 YL (@Ya _ _ _ _ _ (pv 1) (@Ya _ _ _ _ _ (@Xq _ _ _ _ ("tuple") Zf (by decide +kernel) (by rfl) (by rfl) (by decide) (by decide)) Yc (by rfl)) (by rfl)) (by decide +kernel) (by rfl) (by rfl) (by decide) (by decide) (by rfl) (by rfl)) (@XQ _ _ _ _ _ (@Xn _ _ _ _ _ _ _ _ YQ (@YA _ _ _ _ _ _ _ _ _ _ aH YF (@Ya _ _ _ _ _ (pv 1) Yc (by rfl)) (by decide +kernel) (by rfl) (by rfl) (by decide) (by decide) (by rfl) (by rfl)) (@YA _ _ _ _ _ _ _ _ _ _ aH YF (@Ya _ _ _ _ _ (@Yu _ _ _ _ _ _ _ Yw (pv 0) Yh (fun _ _=>rfl)) Yc (by rfl)) (by decide +kernel) (by rfl) (by rfl) (by decide) (by decide) (by rfl) (by rfl)) (Yq _)))))) Yp) (@Yd _ _ _ _ _ (@Yy _ _ _ _ _ _ _ _ (@Yt _ _ _ _ _ _ _ _ YQ (pv 2) Yx (Yq _)) (@Yf _ _ _ (@Yl _ _ _ _ (@Yr _ _ _ _ _ _ _ _ _ _ _ _ qw hr (@Ya _ _ _ _ _ (@Yu _ _ _ _ _ _ _ Yw (pv 0) Yh (fun _ _=>rfl)) (@Ya _ _ _ _ _ (pv 1) Yc (by rfl)) (by rfl)) (by omega) (by rfl) (by rfl) (by decide) (by rfl) (by rfl)))) Yp) (@Yd _ _ _ _ _ (@Yy _ _ _ _ _ _ _ _ (@Yt _ _ _ _ _ _ _ _ YQ (pv 2) Yx (Yq _)) (@Yf _ _ _ YI) Yp) (@Yd _ _ _ _ _ (@Yy _ _ _ _ _ _ _ _ (@Yt _ _ _ _ _ _ _ _ Qp (pv 2) (@Ku _ _ _ _ _ lF (by rfl) (by rfl) (by decide)) rfl) (@Yf _ _ _ (@Yl _ _ _ _ (@YA _ _ _ _ _ _ _ _ _ _ Z3 YL (@Ya _ _ _ _ _ (pv 1) (@Ya _ _ _ _ _ (@Xq _ _ _ _ ("list") aP (by decide +kernel) (by rfl) (by rfl) (by decide) (by decide)) Yc (by rfl)) (by rfl)) (by decide +kernel) (by rfl) (by rfl) (by decide) (by decide) (by rfl) (by rfl)))) Yp) (@Yf _ _ _ (@Yl _ _ _ _ XT))))))))),?_⟩;refine Ym fun R rr=>?_
 cases hv with
 | jl i =>
  have hS:H a=some (.tup (m8 lo)):=hS;walk_at "rd";refine ⟨_,aq.of hS,_,Yk (j:=0) rfl,rr _ _ (d9 rfl rfl ?_)⟩;walk_at "rd";have:=q H (.refl _);refine ⟨.int i,rfl,_,rfl,VQ ⟨_,aq.of hS,_,Yk (j:=1) rfl,_,rfl,?_⟩⟩;by_cases c:lo<=i
  ·refine Y3 c ⟨_,aq.of hS,_,Yk (j:=2) rfl,_,rfl,?_⟩
   rw [show decide (lo<=i/\i<=lo+7)=decide (i<=lo+7) from decide_eq_decide.mpr ⟨fun h=>h.2,fun h=>⟨c,h⟩⟩] at this
   exact this
  ·rw [decide_eq_false (fun h=>c h.1)] at this
   exact YC c this
 | jG z =>
  have hS:H a=some (.tup (m8 lo)):=hS;walk_at "rd";refine ⟨_,aq.of hS,_,Yk (j:=0) rfl,rr _ _ (d9 rfl rfl ?_)⟩;walk_at "rd";exact ⟨.str z,rfl,_,rfl,YC (fun h=>by simp [An.isI] at h) (q H (.refl _))⟩
 | aX b hb =>
  obtain ⟨c,h1,h2⟩:=hS;walk_at "rd";refine ⟨_,aq.of h1,_,Yk (j:=0) rfl,rr _ _ (aR rfl (by decide +kernel) (aR rfl (by decide +kernel) (d9 rfl rfl ?_)))⟩;walk_at "rd";exact ⟨_,rfl,_,.tup hb,true,rfl,VQ ⟨_,.inr (aq.of hb),_,aq.of h1,_,Yk (j:=1) rfl,_,rfl,_,.inr (aq.of h2),q H (.refl _)⟩⟩
 | jH b hb =>
  obtain ⟨c,h1,h2⟩:=hS;walk_at "rd";refine ⟨_,aq.of h1,_,Yk (j:=0) rfl,rr _ _ (aR rfl (by decide +kernel) (aR rfl (by decide +kernel) (d9 rfl rfl ?_)))⟩;walk_at "rd";exact ⟨_,rfl,_,.lst hb,false,rfl,YC (by decide) (q H (.refl _))⟩
 | pk v r h =>
  obtain ⟨b,c0,c1,p0,p1,e0,h1,hP⟩:=hS;walk_at "rd";refine ⟨_,aq.of h1,_,Yk (j:=0) rfl,rr _ _ (aR rfl (by decide +kernel) (aR rfl (by decide +kernel) (aR rfl (by decide +kernel) (d9 rfl rfl ?_))))⟩;walk_at "rd";exact ⟨_,aq.of h1,_,Yk (j:=1) rfl,lo,b,c0,c1,p0,p1,e0,v,r,rfl,hP,h,fun H' s=>q H' s⟩
 | us v =>
  have hS:H a=some (.tup [.str "use",.str "deed"]):=hS;walk_at "rd";refine ⟨_,aq.of hS,_,Yk (j:=0) rfl,rr _ _ (aR rfl (by decide +kernel) (aR rfl (by decide +kernel) (aR rfl (by decide +kernel) (aR rfl (by decide +kernel) (aR rfl (by decide +kernel) ?_)))))⟩;walk_at "rd";exact fun c hc=>⟨_,.inr hc,rfl,rfl,YC (by decide +kernel) (q H (.refl _))⟩
 | dF v h =>
  obtain ⟨e,h0,h1⟩:=hS;obtain ⟨t,t1,t2⟩:=h.ty (K:=g.K);walk_at "rd";refine ⟨_,aq.of h0,_,Yk (j:=0) rfl,rr _ _ (aR rfl (by decide +kernel) (aR rfl (by decide +kernel) (aR rfl (by decide +kernel) (aR rfl (by decide +kernel) (aR rfl (by decide +kernel) ?_)))))⟩;walk_at "rd";exact fun c hc=>⟨_,.inr hc,rfl,rfl,Y3 (by decide +kernel) ⟨_,rfl,t,t1,false,t2,q H (.refl _)⟩⟩
 | aN D us hD =>
  obtain ⟨e,h0,h1⟩:=hS;walk_at "rd";refine ⟨_,aq.of h0,_,Yk (j:=0) rfl,rr _ _ (aR rfl (by decide +kernel) (aR rfl (by decide +kernel) (aR rfl (by decide +kernel) (aR rfl (by decide +kernel) (aR rfl (by decide +kernel) ?_)))))⟩;walk_at "rd";exact fun c hc=>⟨_,.inr hc,rfl,rfl,Y3 (by decide +kernel) ⟨_,rfl,_,.lst hD,true,rfl,q H (.refl _)⟩⟩
def Dm (H:Hp) (lo:Int) (ts:List Addr) (L:List (Sd×V×Option Nat)):Prop:=ts.length=L.length/\∀ (i:Nat) t w,ts[i]?=some t->L[i]?=some w->∃ p,H t=some (.tup [.ref p,w.2.1])/\Y7 H lo p w.1/\Vx H lo w.1 w.2.1 w.2.2
inductive Wi (H:Hp) (lo:Int):Sd->V->Option Nat->List (Sd×V×Option Nat)->Prop
 | wh (o:Nat) (h:o<=7):Wi H lo .wh (.int (lo+o)) (some (jW o)) []
 | aX (b:Addr) (h:H b=some (.tup [])):Wi H lo .aX (.ref b) (some 0) []
 | pk (a:Addr) (m:Nat) (u:V) (r:Option Nat) (hm:m<2) (h:H a=some (.tup [.str (bx m),u])) (hu:Vx H lo (lE m) u r):Wi H lo .pk (.ref a) r [(lE m,u,r)]
 | us (v:V) (r:Option Nat) (h:Vx H lo .pk v r):Wi H lo .us v (r.map (1+·)) [(.pk,v,r)]
 | aN (D:Addr) (us:List V) (rs:List (Option Nat)) (h:H D=some (.lst us)) (l:us.length=rs.length) (hl:us.length<=100) (h2:∀ (i:Nat) u r,us[i]?=some u->rs[i]?=some r->Vx H lo .us u r) (r:Option Nat) (hr:r=if rs.all eS then some (rs.length+(rs.map fun z=>z.getD 0).sum) else none):Wi H lo .aN (.ref D) r ((us.zip rs).map fun w=>(.us,w.1,w.2))
theorem Dn {m:Nat} (h:m<2):pO (bx m) = .int (m:Nat):=by
 match m,h with
 | 0,_=>rfl
 | 1,_=>rfl
theorem Vx.form {H:Hp} {lo:Int} {s:Sd} {v:V} {r:Option Nat} (h:Vx H lo s v r):(Hf H lo s v false/\r=none)\/(Hf H lo s v true/\∃ L,Wi H lo s v r L):=by
 cases h with
 | wh o h =>
  refine .inr ⟨?_,_,.wh o h⟩;have:=Hf.jl (H:=H) (lo:=lo) (lo+(o:Nat));rw [decide_eq_true (by omega)] at this
  exact this
 | jl i h =>
  refine .inl ⟨?_,rfl⟩;have:=Hf.jl (H:=H) (lo:=lo) i;rw [decide_eq_false h] at this
  exact this
 | jG z=>exact .inl ⟨.jG z,rfl⟩
 | aX b h=>exact .inr ⟨.aX b h,_,.aX b h⟩
 | jH b h=>exact .inl ⟨.jH b h,rfl⟩
 | gF v h =>
  refine .inl ⟨.pk v _ ?_,rfl⟩
  cases h with
  | not v h=>exact .not v h
  | one a v h=>exact .one a v h
  | mk a z u h n0 n1 =>
   have:=nj.tw a z u h;rw [pO,if_neg n0,if_neg n1,decide_eq_true rfl] at this
   exact this
 | pk a m u r hm h hu =>
  refine .inr ⟨.pk _ _ ?_,_,.pk a m u r hm h hu⟩;have:=nj.tw a (bx m) u h;rw [Dn hm,decide_eq_false (by intro z;cases z)] at this
  exact this
 | us v r h=>exact .inr ⟨.us v,_,.us v r h⟩
 | dF v h=>exact .inl ⟨.dF v h,rfl⟩
 | aN D us rs h l hl h2 r hr=>exact .inr ⟨.aN D us h,_,.aN D us rs h l hl h2 r hr⟩
theorem Wi.len {H:Hp} {lo:Int} {s:Sd} {v:V} {r:Option Nat} {L:List (Sd×V×Option Nat)} (h:Wi H lo s v r L):L.length<=100/\∀ w∈L,jg w.1<jg s:=by
 cases h with
 | wh=>exact ⟨by decide,fun w h=>by cases h⟩
 | aX=>exact ⟨by decide,fun w h=>by cases h⟩
 | pk a m u r hm h hu =>
  refine ⟨by simp,fun w hw=>?_⟩;rw [ε.mp hw]
  match m,hm with
  | 0,_=>exact (by decide:1<2)
  | 1,_=>exact (by decide:1<2)
 | us v r h =>
  refine ⟨by simp,fun w hw=>?_⟩;rw [ε.mp hw];exact (by decide:2<3)
 | aN D us rs h l hl h2 r hr =>
  refine ⟨by rw [Θ,List.length_zip];omega,fun w hw=>?_⟩;obtain ⟨z,_,rfl⟩:=ae.mp hw;exact (by decide:3<4)
def rOf (s:Sd) (r:Option Nat) (L:List (Sd×V×Option Nat)):Prop:=((∃ w∈L,w.2.2=none)->r=none)/\((∀ w∈L,w.2.2.isSome)->r.isSome)
theorem Wi.r {H:Hp} {lo:Int} {s:Sd} {v:V} {r:Option Nat} {L:List (Sd×V×Option Nat)} (h:Wi H lo s v r L):rOf s r L:=by
 cases h with
 | wh=>exact ⟨(fun ⟨w,h,_⟩=>by cases h),fun _=>rfl⟩
 | aX=>exact ⟨(fun ⟨w,h,_⟩=>by cases h),fun _=>rfl⟩
 | pk a m u r hm h hu =>
  refine ⟨fun ⟨w,h,e⟩=>?_,fun k=>k _ (.head _)⟩;rw [ε.mp h] at e;exact e
 | us v r h =>
  refine ⟨fun ⟨w,h,e⟩=>?_,fun k=>?_⟩
  ·rw [ε.mp h] at e
   have e:r=none:=e;rw [e];rfl
  ·have:=k _ (.head _)
   have this:r.isSome=true:=this
   cases r with
   | none=>cases this
   | some n=>rfl
 | aN D us rs h l hl h2 r hr =>
  have hm:∀ z∈rs,∃ w∈(us.zip rs).map (fun w=>((Sd.us,w.1,w.2):Sd×V×Option Nat)),w.2.2=z:=fun z hz=>by
   obtain ⟨i,hi,rfl⟩:=ia hz;refine ⟨(.us,us[i]'(by omega),rs[i]),ae.mpr ⟨(us[i]'(by omega),rs[i]),?_,rfl⟩,rfl⟩;rw [List.mem_iff_getElem];exact ⟨i,by rw [List.length_zip];omega,by rw [List.getElem_zip]⟩
  refine ⟨fun ⟨w,hw,e⟩=>?_,fun k=>?_⟩
  ·obtain ⟨z,hz,rfl⟩:=ae.mp hw
   have hz2:=(dy hz).2;rw [hr,if_neg];intro ha;have:=gE.mp ha _ hz2;have e:z.2=none:=e;rw [e] at this
   cases this
  ·rw [hr,if_pos]
   ·rfl
   ·refine gE.mpr fun z hz=>?_
    obtain ⟨w,hw,rfl⟩:=hm z hz;exact k w hw
inductive wg (K:Ι) (vs:List V) (H:Hp) (Q:VK) (E_:XK):Prop
 | mk (B:Addr) (lo:Int) (a:Addr) (s:Sd) (v:V) (r:Option Nat) (L:List (Sd×V×Option Nat)) (h0:vs=[.ref B,.ref a,v]) (h1:cX H lo B) (h2:Y7 H lo a s) (h3:Wi H lo s v r L) (h4:∀ D ts H',Yg H H'->H D=none->H' D=some (.lst (ts.map V.ref))->ts.length<=100->Dm H' lo ts L->Q (.ref D) H')
theorem Z4k {k:Nat}  (R:g.Raw "things_within" "things_within" Bb ["book","shape","value"]) (qx:g.Fn k "shape_of" ["book","name"] (pN)) (ZG:g.Fn k "branch_place" ["branches","mark"] (jX)) (aP:g.mg "list"=none) (jY:g.mg "zip"=none) (lF:g.mZ "OF_ONE_PART" ([.str "many",.str "rising",.str "unlike"])):g.Fn (k+1) "things_within" ["book","shape","value"] (wg g.K):=by
 refine R.fn M4 (fun vs H Q E h=>by obtain ⟨B,lo,a,s,v,r,L,rfl,hB,hS,hv,q⟩:=h;rfl) fun f_ cdv A outer s H vs Q E hr h=>?_
 obtain ⟨B,lo,a,s,v,r,L,rfl,hB,hS,hv,q⟩:=h;refine ⟨_,(@Yd _ _ _ _ _ (@Yv _ _ (3) _ _ _ _ M4.nd rfl (.inl rfl) (@Yu _ _ _ _ _ _ _ Yw (pv 1) Yh (fun _ _=>rfl)) (by rfl) (by first | exact .inl rfl | exact .inr rfl | assumption)) (@Yd _ _ _ _ _ (@Yy _ _ _ _ _ _ _ _ (@Yt _ _ _ _ _ _ _ _ YQ (pv 3) Yx (Yq _)) (@Yf _ _ _ (@Yl _ _ _ _ (@Yak _ _ _ _ _ _ _ _ rfl aP rfl jY (@Ya _ _ _ _ _ (@Yu _ _ _ _ _ _ _ Yw (pv 1) Yh (fun _ _=>rfl)) (@Ya _ _ _ _ _ (pv 2) Yc (by rfl)) (by rfl)) (by rfl) (by rfl) (by rfl)))) Yp) (@Yd _ _ _ _ _ (@Yy _ _ _ _ _ _ _ _ (@Yt _ _ _ _ _ _ _ _ YQ (pv 3) Yx (Yq _)) (@Yf _ _ _ (@Yl _ _ _ _ (@Y0 _ _ _ _ (@Ya _ _ _ _ _ (@YR _ _ _ _ _ (@Ya _ _ _ _ _ (@Yu _ _ _ _ _ _ _ Yw (@Yu _ _ _ _ _ _ _ Yw (@Yu _ _ _ _ _ _ _ Yw (pv 1) Yh (fun _ _=>rfl)) (@Yr _ _ _ _ _ _ _ _ _ _ _ _ ZG hr (@Ya _ _ _ _ _ (@Yu _ _ _ _ _ _ _ Yw (pv 1) Yh (fun _ _=>rfl)) (@Ya _ _ _ _ _ (@Yu _ _ _ _ _ _ _ Yw (pv 2) Yh (fun _ _=>rfl)) Yc (by rfl)) (by rfl)) (by omega) (by rfl) (by rfl) (by decide) (by rfl) (by rfl)) (fun _ _=>rfl)) Yh (fun _ _=>rfl)) (@Ya _ _ _ _ _ (@Yu _ _ _ _ _ _ _ Yw (pv 2) Yh (fun _ _=>rfl)) Yc (by rfl)) (by rfl))) Yc (YY _ _ _ _ _))))) Yp) (@Yd _ _ _ _ _ (@Yy _ _ _ _ _ _ _ _ (@Yt _ _ _ _ _ _ _ _ YQ (pv 3) Yx (Yq _)) (@Yf _ _ _ (@Yl _ _ _ _ (@Y0 _ _ _ _ (@Ya _ _ _ _ _ (@YR _ _ _ _ _ (@Ya _ _ _ _ _ (@Yr _ _ _ _ _ _ _ _ _ _ _ _ qx hr (@Ya _ _ _ _ _ (pv 0) (@Ya _ _ _ _ _ (@Yu _ _ _ _ _ _ _ Yw (pv 1) Yh (fun _ _=>rfl)) Yc (by rfl)) (by rfl)) (by omega) (by rfl) (by rfl) (by decide) (by rfl) (by rfl)) (@Ya _ _ _ _ _ (pv 2) Yc (by rfl)) (by rfl))) Yc (YY _ _ _ _ _))))) Yp) (@Yd _ _ _ _ _ (@Yy _ _ _ _ _ _ _ _ (@XN _ _ _ _ _ _ _ (@Yt _ _ _ _ _ _ _ _ YQ (pv 3) Yx (Yq _)) (@WC _ _ _ _ (@Yt _ _ _ _ _ _ _ _ Qp (pv 3) (@Ku _ _ _ _ _ lF (by rfl) (by rfl) (by decide)) rfl))).pt (@Yf _ _ _ (@Yl _ _ _ _ (@XO _ _ _ _ _ _ _ ([none,some 1]) ((["thing","shape"]:List Str)) _ (YW 0) _ _ (.own (.cap (i:=1) rfl rfl (by first | exact .inl rfl | exact .inr rfl) .nil)) rfl (@Xe _ _ _ _ (pv 2)) (fun cl C s₀ H₀ fp pn=>(@YD _ _ (0) _ (show bu (["thing","shape"]:List Str) by decide +kernel) rfl (.inl rfl) (.inr rfl))) (fun cl C s₀ H₀ fp pn=>Xp) (fun cl C s₀ H₀ fp pn=>(@YR _ _ _ _ _ (@Ya _ _ _ _ _ (@Yu _ _ _ _ _ _ _ (UZ (K:=g.K)) (pv 1) Yh (fun _ _=>rfl)) (@Ya _ _ _ _ _ (pv 0) Yc (by rfl)) (by rfl)))) (by intro x hx;simp at hx;first | (subst hx;exact .inl rfl) | (rcases hx with rfl | rfl<;>exact .inl rfl) | (rcases hx with rfl | rfl | rfl<;>exact .inl rfl) | (rcases hx with rfl | rfl | rfl | rfl<;>exact .inl rfl) | (rcases hx with rfl | rfl | rfl | rfl | rfl<;>exact .inl rfl)) (by rfl) (by decide) (by decide +kernel) (by intro _;rfl)))) Yp) (@Yf _ _ _ (@Yl _ _ _ _ (@Y0 _ _ _ _ Yc)))))))),?_⟩;refine Ym fun R rr=>?_
 cases hv with
 | wh o ho =>
  have hS:H a=some (.tup (m8 lo)):=hS;walk_at "rd";refine ⟨_,aq.of hS,_,Yk (j:=0) rfl,rr _ _ (aR rfl (by decide +kernel) (aR rfl (by decide +kernel) (aR rfl (by decide +kernel) ?_)))⟩;walk_at "rd";refine YC (by decide +kernel) fun c hc=>⟨_,.inr hc,rfl,rfl,YC (by decide +kernel) ⟨few (by decide),fun p hp=>?_⟩⟩
  exact q p [] _ (.aj hp _) hp Yb (by decide) ⟨rfl,fun i t w h=>by cases h⟩
 | aX b hb =>
  obtain ⟨c,h1,h2⟩:=hS;walk_at "rd";refine ⟨_,aq.of h1,_,Yk (j:=0) rfl,rr _ _ (d9 rfl rfl ?_)⟩;walk_at "rd";unfold Aq;walk_at "rd";exact ⟨_,aq.of h1,_,Yk (j:=1) rfl,_,rfl,aq.of h2,aq.of hb,fun l gl=>q l [] _ (.aj gl _) gl Yb (by decide) ⟨rfl,fun i t w h=>by cases h⟩⟩
 | pk a' m u r hm ha hu =>
  obtain ⟨b,c0,c1,p0,p1,e0,h1,hP⟩:=hS;walk_at "rd";refine ⟨_,aq.of h1,_,Yk (j:=0) rfl,rr _ _ (aR rfl (by decide +kernel) (d9 rfl rfl ?_))⟩;walk_at "rd";refine ⟨_,aq.of h1,_,Yk (j:=1) rfl,_,aq.of h1,_,Yk (j:=1) rfl,_,aq.of ha,_,Yk (j:=0) rfl,lo,bx m,b,c0,c1,p0,p1,e0,rfl,hP,fun H1 s1=>?_⟩;rw [Dn hm];obtain ⟨c,p,g1,g2,g3⟩:∃ c p,([.ref c0,.ref c1]:List V)[m]?=some (.ref c)/\H c=some (.tup [.str (bx m),.ref p])/\Y7 H lo p (lE m):=by
   match m,hm with
   | 0,_=>exact ⟨c0,p0,rfl,hP.c0,e0,hP.p0,hP.e0⟩
   | 1,_=>exact ⟨c1,p1,rfl,hP.c1,hP.p1⟩
  refine ⟨b,rfl,_,rfl,_,aq.of (s1 _ _ hP.b),_,Yk g1,c,rfl,_,aq.of (s1 _ _ g2),_,Yk (j:=1) rfl,_,aq.of (s1 _ _ ha),_,Yk (j:=1) rfl,few (by decide),fun X gX=>⟨few (by decide),fun L gL=>?_⟩⟩;have sX:=Yg.aj gX (.tup [.ref p,u]);have sL:=Yg.aj gL (.lst [.ref X]);have s3:=(s1.trans sX).trans sL;refine q L [X] _ s3 ((s1.trans sX).free gL) Yb (by simp) ⟨rfl,fun i t w h1 h2=>?_⟩
  cases i with
  | zero =>
   cases Ε h1
   cases Ε h2
   exact ⟨p,sL _ _ Yb,g3.kt (Yn s3),hu.kt (Yn s3)⟩
  | succ i=>cases h1
 | us v r h =>
  have hS:H a=some (.tup [.str "use",.str "deed"]):=hS;walk_at "rd";refine ⟨_,aq.of hS,_,Yk (j:=0) rfl,rr _ _ (aR rfl (by decide +kernel) (aR rfl (by decide +kernel) (d9 rfl rfl ?_)))⟩;walk_at "rd";refine ⟨_,aq.of hS,_,Yk (j:=1) rfl,B,lo,rfl,hB,fun p g3=>⟨few (by decide),fun X gX=>⟨few (by decide),fun L gL=>?_⟩⟩⟩;have sX:=Yg.aj gX (.tup [.ref p,v]);have sL:=Yg.aj gL (.lst [.ref X]);have s3:=sX.trans sL;refine q L [X] _ s3 (sX.free gL) Yb (by simp) ⟨rfl,fun i t w h1 h2=>?_⟩
  cases i with
  | zero =>
   cases Ε h1
   cases Ε h2
   exact ⟨p,sL _ _ Yb,g3.kt (Yn s3),h.kt (Yn s3)⟩
  | succ i=>cases h1
 | aN D us rs hD l hl h2 r hr =>
  obtain ⟨e,h0,h1⟩:=hS;walk_at "rd";refine ⟨_,aq.of h0,_,Yk (j:=0) rfl,rr _ _ (aR rfl (by decide +kernel) (aR rfl (by decide +kernel) (aR rfl (by decide +kernel) ?_)))⟩;walk_at "rd";refine YC (by decide +kernel) fun c hc=>⟨_,.inr hc,rfl,rfl,Y3 (by decide +kernel) ?_⟩
  refine Q7 (K:=g.K) (xs:=us) (us.map fun u=>[.ref e,u]) (fun R r=>by walk_at "rd";exact r D H (.refl _) (aA.of hD)) (by simp) (by omega) ?_ ?_
  ·intro i u y H' hu hy sm R r
   rw [Υ,hu] at hy
   cases Ε hy
   walk_at "rd";exact ⟨_,aq.of (sm _ _ h0),_,Yk (j:=1) rfl,few (by decide),fun p hp=>r p _ (.aj hp _) Yb⟩
  ·intro D2 as H' gD sm hd hal hat
   refine q D2 as H' sm gD hd (by omega) ⟨by simp [l];omega,fun i t w h1' h2'=>?_⟩;rw [Υ] at h2'
   obtain ⟨z,hz,rfl⟩:=ο.mp h2';obtain ⟨u,x⟩:=z;rw [List.getElem?_zip_eq_some] at hz
   obtain ⟨hu,hx⟩:=hz;exact ⟨e,hat i t _ h1' (by rw [Υ,hu];rfl),sm _ _ h1,(h2 i u x hu hx).kt (Yn sm)⟩
def wj (H:Hp) (ks:List Addr) (ns:List Nat):Prop:=ks.length=ns.length/\∀ (i:Nat) k n,ks[i]?=some k->ns[i]?=some n->∃ r,H k=some (.tup (.int (n:Nat)::r))
inductive nq (K:Ι) (vs:List V) (H:Hp) (Q:VK) (E_:XK):Prop
 | mk (b:Addr) (ks:List Addr) (ns:List Nat) (h0:vs=[.ref b]) (h1:H b=some (.lst (ks.map V.ref))) (h2:wj H ks ns) (h3:ks.length<=100) (h4:∀ H',Yg H H'->Q (.int (ns.sum:Nat)) H')
theorem Yek (l:List Nat):(l.map fun n=>((n:Nat):Int)).sum=((l.sum:Nat):Int):=by
 induction l with
 | nil=>rfl
 | cons a l ih=>rw [aS,List.sum_cons,ih,List.sum_cons,ij]
theorem Z4r  (R:g.Raw "sum_of_sizes" "sum_of_sizes" Bc ["keys"]) (jZ:g.mg "sum"=none):g.Fn (1) "sum_of_sizes" ["keys"] (nq g.K):=by
 refine R.fn Z4o (fun vs H Q E h=>by obtain ⟨b,ks,ns,rfl,hb,hk,hl,q⟩:=h;rfl) fun f_ cdv A outer s H vs Q E hr h=>?_
 obtain ⟨b,ks,ns,rfl,hb,hk,hl,q⟩:=h;refine ⟨_,(@Yf _ _ _ (@Yl _ _ _ _ (@YA _ _ _ _ _ _ _ _ _ _ jZ QD (@Ya _ _ _ _ _ (@XO _ _ _ _ _ _ _ ([none]) ((["key"]:List Str)) _ (YW 0) _ _ (.own .nil) rfl (@Xe _ _ _ _ (pv 0)) (fun cl C s₀ H₀ fp pn=>(@YD _ _ (0) _ (show bu (["key"]:List Str) by decide +kernel) rfl (.inl rfl) (.inr rfl))) (fun cl C s₀ H₀ fp pn=>Xp) (fun cl C s₀ H₀ fp pn=>(@Yu _ _ _ _ _ _ _ (UZ (K:=g.K)) (pv 0) Yh (fun _ _=>rfl))) (by intro x hx;simp at hx) (by rfl) (by decide) (by decide +kernel) (by intro _;rfl)) Yc (by rfl)) (by decide +kernel) (by rfl) (by rfl) (by decide) (by decide) (by rfl) (by rfl)))),?_⟩;walk_at "rd";refine VS (K:=g.K) (xs:=ks.map V.ref) ((ns.map fun n=>((n:Nat):Int)).map V.int) (fun R r=>by walk_at "rd";exact r b H (.refl _) (aA.of hb)) (by simp [hk.1]) (by simp;omega) ?_ ?_
 ·intro i x y H' hx hy sm R r
  rw [Υ] at hx
  obtain ⟨k,hk1,rfl⟩:=ο.mp hx;rw [Υ,Υ] at hy
  obtain ⟨z,hz,rfl⟩:=ο.mp hy;obtain ⟨n,hn,rfl⟩:=ο.mp hz;obtain ⟨r0,e⟩:=hk.2 i k n hk1 hn;walk_at "rd";exact ⟨_,aq.of (sm _ _ e),_,Yk (j:=0) rfl,r H' (.refl _)⟩
 ·intro D H' hD sm hd
  refine ⟨D,rfl,_,aA.of hd,?_⟩;rw [Yek];exact q H' sm
inductive wk (K:Ι) (vs:List V) (H:Hp) (Q:VK) (E_:XK):Prop
 | mk (a e b:Addr) (ks:List Addr) (ns:List Nat) (h0:vs=[.ref a,.ref b]) (h1:H a=some (.tup [.str "many",.ref e])) (h2:H b=some (.lst (ks.map V.ref))) (h3:wj H ks ns) (h4:ks.length<=100) (h5:∀ k r H',Yg H H'->H' k=some (.tup (.int ((ns.length+ns.sum:Nat):Int)::r))->Q (.ref k) H')
theorem YaP {k:Nat}  (R:g.Raw "list_key" "list_key" Bd ["shape","keys"]) (Dp:g.Fn k "sum_of_sizes" ["keys"] (nq g.K)) (aH:g.mg "len"=none) (Zf:g.mg "tuple"=none):g.Fn (k+1) "list_key" ["shape","keys"] (wk g.K):=by
 refine R.fn Bf (fun vs H Q E h=>by obtain ⟨a,e,b,ks,ns,rfl,ha,hb,hk,hl,q⟩:=h;rfl) fun f_ cdv A outer s H vs Q E hr h=>?_
 obtain ⟨a,e,b,ks,ns,rfl,ha,hb,hk,hl,q⟩:=h;refine ⟨_,(@Yd _ _ _ _ _ (@Yv _ _ (2) _ _ _ _ Bf.nd rfl (.inl rfl) (@Yu _ _ _ _ _ _ _ Yw (pv 0) Yh (fun _ _=>rfl)) (by rfl) (by first | exact .inl rfl | exact .inr rfl | assumption)) (@Yd _ _ _ _ _ (@Yv _ _ (3) _ _ _ _ Bf.nd rfl (.inl rfl) (@Ys _ _ _ _ _ _ _ _ Xa (@YA _ _ _ _ _ _ _ _ _ _ aH YF (@Ya _ _ _ _ _ (pv 1) Yc (by rfl)) (by decide +kernel) (by rfl) (by rfl) (by decide) (by decide) (by rfl) (by rfl)) (@Yr _ _ _ _ _ _ _ _ _ _ _ _ Dp hr (@Ya _ _ _ _ _ (pv 1) Yc (by rfl)) (by omega) (by rfl) (by rfl) (by decide) (by rfl) (by rfl))) (by rfl) (by first | exact .inl rfl | exact .inr rfl | assumption)) (@Yd _ _ _ _ _ (@Yy _ _ _ _ _ _ _ _ (@Yt _ _ _ _ _ _ _ _ YQ (pv 2) Yx (Yq _)) (@Yf _ _ _ (@Yl _ _ _ _ (@Wz _ _ _ _ _ _ _ _ _ _ Zf Xz (@Ya _ _ _ _ _ (@Ys _ _ _ _ _ _ _ _ Xu (@Y0 _ _ _ _ (@Ya _ _ _ _ _ (pv 3) Yc (by rfl))) (pv 1)) Yc (by rfl)) (by decide +kernel) (by rfl) (by rfl) (by decide) (by decide) (by rfl) (by rfl)))) Yp) (@Yd _ _ _ _ _ YI (@Yd _ _ _ _ _ YI (@Yf _ _ _ YI)))))),?_⟩;refine Ym fun R rr=>?_
 walk_at "rd";refine ⟨_,aq.of ha,_,Yk (j:=0) rfl,rr _ _ (Ym fun R rr=>?_)⟩;walk_at "rd";refine ⟨_,.inl (aA.of hb),b,ks,ns,rfl,hb,hk,hl,fun H1 s1=>⟨_,rfl,rr _ _ (d9 rfl rfl ?_)⟩⟩;walk_at "rd";rw [Θ,hk.1,<- ij];refine ⟨few (by decide),fun X gX=>?_⟩;have sX:=Yg.aj gX (.lst [.int ((ns.length+ns.sum:Nat):Int)]);refine ⟨_,Yb,_,sX _ _ (s1 _ _ hb),few (by simp;omega),fun Y gY=>⟨_,.inl ⟨aA.of Yb,fun Z gZ=>?_⟩⟩⟩;exact q _ _ _ (((s1.trans sX).trans (.aj gY _)).trans (.aj gZ _)) Yb
def gz (L:List (Sd×V×Option Nat)):List Nat:=L.map fun w=>w.2.2.getD 0
inductive wu (K:Ι) (vs:List V) (H:Hp) (Q:VK) (E_:XK):Prop
 | mk (lo:Int) (a:Addr) (s:Sd) (v:V) (n:Nat) (L:List (Sd×V×Option Nat)) (b:Addr) (ks:List Addr) (h0:vs=[.ref a,v,.ref b]) (h1:Y7 H lo a s) (h2:Wi H lo s v (some n) L) (h3:H b=some (.lst (ks.map V.ref))) (h4:wj H ks (gz L)) (h5:∀ k r H',Yg H H'->H' k=some (.tup (.int (n:Nat)::r))->Q (.ref k) H')
theorem map_some {r:Option Nat} {n:Nat} (h:r.map (1+·)=some n):n=1+r.getD 0:=by
 cases r with
 | none=>cases h
 | some m=>exact (Ε h).symm
theorem Nf:∀ (us:List V) (rs:List (Option Nat)),us.length=rs.length->gz ((us.zip rs).map fun w=>(Sd.us,w.1,w.2))=rs.map fun z=>z.getD 0
 | [],[],_=>rfl
 | _::us,_::rs,h=>by
  have:=Nf us rs (fN h);exact congrArg (_::·) this
 | [],_::_,h=>by cases h
 | _::_,[],h=>by cases h
theorem YaQ {k:Nat}  (R:g.Raw "key_made" "key_made" Bg ["shape","value","keys"]) (ZG:g.Fn k "branch_place" ["branches","mark"] (jX)) (Dp:g.Fn k "sum_of_sizes" ["keys"] (nq g.K)) (qy:g.Fn k "list_key" ["shape","keys"] (wk g.K)) (Zf:g.mg "tuple"=none):g.Fn (k+1) "key_made" ["shape","value","keys"] (wu g.K):=by
 refine R.fn M5 (fun vs H Q E h=>by obtain ⟨lo,a,s,v,n,L,b,ks,rfl,hS,hv,hb,hk,q⟩:=h;rfl) fun f_ cdv A outer s H vs Q E hr h=>?_
 obtain ⟨lo,a,s,v,n,L,b,ks,rfl,hS,hv,hb,hk,q⟩:=h;refine ⟨_,(@Yd _ _ _ _ _ (@Yv _ _ (3) _ _ _ _ M5.nd rfl (.inl rfl) (@Yu _ _ _ _ _ _ _ Yw (pv 0) Yh (fun _ _=>rfl)) (by rfl) (by first | exact .inl rfl | exact .inr rfl | assumption)) (@Yd _ _ _ _ _ (@Yy _ _ _ _ _ _ _ _ (@Yt _ _ _ _ _ _ _ _ YQ (pv 3) Yx (Yq _)) (@Yf _ _ _ (@Yl _ _ _ _ (@YR _ _ _ _ _ (@Ya _ _ _ _ _ (@YfZ _ _ _ _ _ _ _ _ _ F.plainAttrs_int F.slot_int_bit_length F.type_int_bit_length Yfm (@Ys _ _ _ _ _ _ _ _ Wh (pv 1) (@Yu _ _ _ _ _ _ _ Yw (pv 0) Yh (fun _ _=>rfl))) (by rfl) (by rfl)) (@Ya _ _ _ _ _ (pv 1) Yc (by rfl)) (by rfl))))) Yp) (@Yd _ _ _ _ _ (@Yy _ _ _ _ _ _ _ _ (@Yt _ _ _ _ _ _ _ _ YQ (pv 3) Yx (Yq _)) (@Yf _ _ _ YI) Yp) (@Yd _ _ _ _ _ (@Yy _ _ _ _ _ _ _ _ (@Yt _ _ _ _ _ _ _ _ YQ (pv 3) Yx (Yq _)) (@Yf _ _ _ (@Yl _ _ _ _ (@Wz _ _ _ _ _ _ _ _ _ _ Zf Xz (@Ya _ _ _ _ _ (@Ys _ _ _ _ _ _ _ _ Xu (@Y0 _ _ _ _ (@Ya _ _ _ _ _ (@Yr _ _ _ _ _ _ _ _ _ _ _ _ Dp hr (@Ya _ _ _ _ _ (pv 2) Yc (by rfl)) (by omega) (by rfl) (by rfl) (by decide) (by rfl) (by rfl)) Yc (by rfl))) (pv 2)) Yc (by rfl)) (by decide +kernel) (by rfl) (by rfl) (by decide) (by decide) (by rfl) (by rfl)))) Yp) (@Yd _ _ _ _ _ (@Yy _ _ _ _ _ _ _ _ (@Yt _ _ _ _ _ _ _ _ YQ (pv 3) Yx (Yq _)) (@Yf _ _ _ (@Yl _ _ _ _ (@YR _ _ _ _ _ (@Ya _ _ _ _ _ (@Yu _ _ _ _ _ _ _ Yw (@Yu _ _ _ _ _ _ _ Xo (pv 2) Yh (fun _ _=>rfl)) Yh (fun _ _=>rfl)) (@Ya _ _ _ _ _ (@Yr _ _ _ _ _ _ _ _ _ _ _ _ ZG hr (@Ya _ _ _ _ _ (@Yu _ _ _ _ _ _ _ Yw (pv 0) Yh (fun _ _=>rfl)) (@Ya _ _ _ _ _ (@Yu _ _ _ _ _ _ _ Yw (pv 1) Yh (fun _ _=>rfl)) Yc (by rfl)) (by rfl)) (by omega) (by rfl) (by rfl) (by decide) (by rfl) (by rfl)) (@Ya _ _ _ _ _ (@Yu _ _ _ _ _ _ _ Xo (pv 2) Yh (fun _ _=>rfl)) Yc (by rfl)) (by rfl)) (by rfl))))) Yp) (@Yd _ _ _ _ _ (@Yy _ _ _ _ _ _ _ _ (@Yt _ _ _ _ _ _ _ _ YQ (pv 3) Yx (Yq _)) (@Yf _ _ _ (@Yl _ _ _ _ (@YR _ _ _ _ _ (@Ya _ _ _ _ _ (@Ys _ _ _ _ _ _ _ _ Xa Yh (@Yu _ _ _ _ _ _ _ Yw (@Yu _ _ _ _ _ _ _ Xo (pv 2) Yh (fun _ _=>rfl)) Yh (fun _ _=>rfl))) (@Ya _ _ _ _ _ (@Yu _ _ _ _ _ _ _ Xo (pv 2) Yh (fun _ _=>rfl)) Yc (by rfl)) (by rfl))))) Yp) (@Yf _ _ _ (@Yl _ _ _ _ (@Yr _ _ _ _ _ _ _ _ _ _ _ _ qy hr (@Ya _ _ _ _ _ (pv 0) (@Ya _ _ _ _ _ (pv 2) Yc (by rfl)) (by rfl)) (by omega) (by rfl) (by rfl) (by decide) (by rfl) (by rfl)))))))))),?_⟩;obtain ⟨rr0,er⟩:∃ r,r=some n:=⟨_,rfl⟩;rw [<- er] at hv
 have hl:=hv.len.1;have kl:ks.length=L.length:=by rw [hk.1,gz,Θ]
 refine Ym fun R rr=>?_
 cases hv with
 | wh o ho =>
  have hS:H a=some (.tup (m8 lo)):=hS
  cases Ε er
  walk_at "rd";refine ⟨_,aq.of hS,_,Yk (j:=0) rfl,rr _ _ (d9 rfl rfl ?_)⟩;walk_at "rd";refine ⟨_,aq.of hS,_,Yk (j:=1) rfl,_,rfl,rfl,few (by decide),fun p hp=>?_⟩;rw [show lo+(o:Int) - lo=o by omega];exact q p _ _ (.aj hp _) Yb
 | aX b' hb' =>
  obtain ⟨c,h1,h2⟩:=hS
  cases Ε er
  walk_at "rd";refine ⟨_,aq.of h1,_,Yk (j:=0) rfl,rr _ _ (aR rfl (by decide +kernel) (aR rfl (by decide +kernel) (d9 rfl rfl ?_)))⟩;walk_at "rd";refine ⟨b,ks,_,rfl,hb,hk,by omega,fun H1 s1=>⟨few (by decide),fun X gX=>?_⟩⟩;have sX:=Yg.aj gX (.lst [.int ((gz []).sum:Nat)]);refine ⟨_,Yb,_,sX _ _ (s1 _ _ hb),few (by simp;omega),fun Y gY=>⟨_,.inl ⟨aA.of Yb,fun Z gZ=>?_⟩⟩⟩;exact q Z (ks.map V.ref) _ (((s1.trans sX).trans (.aj gY _)).trans (.aj gZ _)) Yb
 | pk a' m u r hm ha hu =>
  obtain ⟨b',c0,c1,p0,p1,e0,h1,hP⟩:=hS;subst er
  match ks,kl with
  | [k0],_ =>
  obtain ⟨r0,e0'⟩:=hk.2 0 k0 _ rfl rfl;walk_at "rd";refine ⟨_,aq.of h1,_,Yk (j:=0) rfl,rr _ _ (aR rfl (by decide +kernel) (aR rfl (by decide +kernel) (aR rfl (by decide +kernel) (d9 rfl rfl ?_))))⟩;walk_at "rd";refine ⟨_,aA.of hb,_,Yk (j:=0) rfl,k0,rfl,_,aq.of e0',_,Yk (j:=0) rfl,_,aq.of h1,_,Yk (j:=1) rfl,_,aq.of ha,_,Yk (j:=0) rfl,lo,bx m,b',c0,c1,p0,p1,e0,rfl,hP,fun H1 s1=>⟨_,aA.of (s1 _ _ hb),_,Yk (j:=0) rfl,few (by decide),fun X gX=>?_⟩⟩;exact q _ _ _ (s1.trans (.aj gX _)) Yb
 | us v r h =>
  have hS:H a=some (.tup [.str "use",.str "deed"]):=hS;have en:=map_some er
  match ks,kl with
  | [k0],_ =>
  obtain ⟨r0,e0'⟩:=hk.2 0 k0 _ rfl rfl;walk_at "rd";refine ⟨_,aq.of hS,_,Yk (j:=0) rfl,rr _ _ (aR rfl (by decide +kernel) (aR rfl (by decide +kernel) (aR rfl (by decide +kernel) (aR rfl (by decide +kernel) (d9 rfl rfl ?_)))))⟩;walk_at "rd";refine ⟨_,aA.of hb,_,Yk (j:=0) rfl,k0,rfl,_,aq.of e0',_,Yk (j:=0) rfl,_,rfl,_,aA.of hb,_,Yk (j:=0) rfl,few (by decide),fun X gX=>?_⟩;refine q X [.ref k0] _ (.aj gX _) ?_;rw [Yb,en,ij];rfl
 | aN D us rs hD l hl' h2 r hr =>
  obtain ⟨e,h0,h1⟩:=hS;walk_at "rd";refine ⟨_,aq.of h0,_,Yk (j:=0) rfl,rr _ _ (aR rfl (by decide +kernel) (aR rfl (by decide +kernel) (aR rfl (by decide +kernel) (aR rfl (by decide +kernel) (aR rfl (by decide +kernel) ?_)))))⟩;walk_at "rd";refine ⟨a,e,b,ks,_,rfl,h0,hb,hk,by omega,fun k r H' s' hk'=>q k r H' s' ?_⟩;rw [Nf us rs l,Θ] at hk'
  rw [hr] at er
  split at er
  ·rw [<- Ε er];exact hk'
  ·cases er
inductive rP (K:Ι) (m:Nat) (vs:List V) (H:Hp) (Q:VK) (E_:XK):Prop
 | mk (B:Addr) (lo:Int) (a:Addr) (s:Sd) (v:V) (r:Option Nat) (h0:vs=[.ref B,.ref a,v]) (h1:cX H lo B) (h2:Y7 H lo a s) (h3:Vx H lo s v r) (h4:jg s<=m) (h5:(∀ H',Yg H H'->r=none->Q .non H')) (h6:∀ k t n H',Yg H H'->r=some n->H' k=some (.tup (.int (n:Nat)::t))->Q (.ref k) H')
theorem Ycb {K:Ι} {vs:List V} {H:Hp} {Q:VK} {E:XK} (h:rP K 0 vs H Q E):False:=by
 obtain ⟨B,lo,a,s,v,r,_,_,_,_,h,_⟩:=h
 cases s<;>simp [jg] at h
theorem VB {K:Ι} {tl:TE} {g:TG} {tb:TS} {D:Ends} {σ:St} {H:Hp} (G:Addr->List V->Hp->Prop) (ha:∀ R:V->Hp->Prop,(∀ a xs H1,aA K H1 a xs->G a xs H1->R (.ref a) H1)->tl σ H R)
  (hb:∀ a xs H1,aA K H1 a xs->G a xs H1->∃ Pv:Nat->St->Hp->Prop,Pv 0 σ H1/\(∀ i σ H,i<=xs.length->Pv i σ H->aA K H a xs) /\
   (∀ i x σ H,xs[i]?=some x->Pv i σ H->g x σ H fun σ2 H2=>tb { D with nx:=Pv (i+1),ct:=Pv (i+1),bk:=D.nx } σ2 H2)/\∀ σ H,Pv xs.length σ H->D.nx σ H):Vt (Wf K tl) g tb D σ H :=
 ha _ fun a xs H1 hS hG=>by
  obtain ⟨Pv,h0,hl,hs,hd⟩:=hb a xs H1 hS hG;exact ⟨a,rfl,⟨xs,hS⟩,Ui Pv h0 hl hs hd⟩
def Ut (H:Hp) (lo:Int) (ts:List Addr) (L:List (Sd×V×Option Nat)):Prop:=ts.length=L.length/\∀ (i:Nat) t w,ts[i]?=some t->L[i]?=some w->∃ p,H t=some (.tup [.ref p,w.2.1])/\Y7 H lo p w.1
theorem Ut.tp {H H':Hp} (k:Tp H H') {lo:Int} {ts:List Addr} {L:List (Sd×V×Option Nat)} (h:Ut H lo ts L):Ut H' lo ts L:=⟨h.1,fun i t w e1 e2=>by
 obtain ⟨p,h1,h2⟩:=h.2 i t w e1 e2;exact ⟨p,k _ _ h1,h2.tp k⟩⟩
theorem Wi.vx {H:Hp} {lo:Int} {s:Sd} {v:V} {r:Option Nat} {L:List (Sd×V×Option Nat)} (h:Wi H lo s v r L):∀ w∈L,Vx H lo w.1 w.2.1 w.2.2:=by
 cases h with
 | wh=>exact fun w h=>by cases h
 | aX=>exact fun w h=>by cases h
 | pk a m u r hm h hu=>exact fun w hw=>by rw [ε.mp hw];exact hu
 | us v r h=>exact fun w hw=>by rw [ε.mp hw];exact h
 | aN D us rs h l hl h2 r hr =>
  intro w hw;obtain ⟨z,hz,rfl⟩:=ae.mp hw;obtain ⟨i,hi,e⟩:=ia hz;have hz':(us.zip rs)[i]?=some z:=by rw [Λ hi,e]
  obtain ⟨u,x⟩:=z;rw [List.getElem?_zip_eq_some] at hz'
  exact h2 i u x hz'.1 hz'.2
theorem Wi.kt {H H':Hp} (k:Kt H H') {lo:Int} {s:Sd} {v:V} {r:Option Nat} {L:List (Sd×V×Option Nat)} (h:Wi H lo s v r L):Wi H' lo s v r L:=by
 cases h with
 | wh o h=>exact .wh o h
 | aX b h=>exact .aX b (k.tup h)
 | pk a m u r hm h hu=>exact .pk a m u r hm (k.tup h) (hu.kt k)
 | us v r h=>exact .us v r (h.kt k)
 | aN D us rs h l hl h2 r hr=>exact .aN D us rs (k.lst h) l hl (fun i u r e1 e2=>(h2 i u r e1 e2).kt k) r hr
inductive WgV (H1:Hp) (lo:Int) (B a:Addr) (v:V) (p l:Addr) (ts:List Addr) (L:List (Sd×V×Option Nat)) (i:Nat) (σ:St) (H':Hp):Prop
 | mk (o4 o5 o6:Option V) (ks:List Addr) (e:σ=[some (.ref B),some (.ref a),some v,some (.ref p),o4,o5,o6]) (s:Yg H1 H') (hp:H' p=some (.lst (ks.map V.ref))) (hl:H' l=some (.lst (ts.map V.ref))) (pr:Ut H' lo ts L) (ky:wj H' ks (gz (L.take i))) (al:∀ w∈L.take i,w.2.2.isSome)
theorem Yel {α:Type} {L:List α} {i:Nat} {w x:α} (h:L[i]?=some w) (hx:x∈L.take (i+1)):x∈L.take i\/x=w:=by
 rw [Xl h] at hx
 rcases τ.mp hx with hx | hx
 ·exact .inl hx
 ·exact .inr (ε.mp hx)
theorem wz {k:Nat}  (R:g.Raw "weighed" "weighed" Bh ["book","shape","value"]) (qz:g.Fn k "has_form" ["shape","value"] (v8 g.K)) (ZX:g.Fn k "things_within" ["book","shape","value"] (wg g.K)) (qC:g.Fn k "key_made" ["shape","value","keys"] (wu g.K)) (rQ:g.Fn k "weighed" ["book","shape","value"] (rP g.K m)):g.Fn (k+1) "weighed" ["book","shape","value"] (rP g.K (m+1)):=by
 refine R.fn rK (fun vs H Q E h=>by obtain ⟨B,lo,a,s,v,r,rfl,hB,hS,hv,hm,q0,q⟩:=h;rfl) fun f_ cdv A outer s H vs Q E hr h=>?_
 obtain ⟨B,lo,a,s,v,r,rfl,hB,hS,hv,hm,q0,q⟩:=h;refine ⟨_,(@Yd _ _ _ _ _ (@Yy _ _ _ _ _ _ _ _ (@Xt _ _ _ _ (@YT _ _ _ (@Yr _ _ _ _ _ _ _ _ _ _ _ _ qz hr (@Ya _ _ _ _ _ (pv 1) (@Ya _ _ _ _ _ (pv 2) Yc (by rfl)) (by rfl)) (by omega) (by rfl) (by rfl) (by decide) (by rfl) (by rfl)) (by intro _;rfl))) (@Yf _ _ _ (@Yl _ _ _ _ Xk)) Yp) (@Yd _ _ _ _ _ (@Yv _ _ (3) _ _ _ _ rK.nd rfl (.inl rfl) (@Y0 _ _ _ _ Yc) (by rfl) (by first | exact .inl rfl | exact .inr rfl | assumption)) (@Yd _ _ _ _ _ (@XE _ _ _ _ _ _ _ _ av rfl (@Xe _ _ _ _ (@Yr _ _ _ _ _ _ _ _ _ _ _ _ ZX hr (@Ya _ _ _ _ _ (pv 0) (@Ya _ _ _ _ _ (pv 1) (@Ya _ _ _ _ _ (pv 2) Yc (by rfl)) (by rfl)) (by rfl)) (by omega) (by rfl) (by rfl) (by decide) (by rfl) (by rfl))) (@WD _ _ _ _ _ (2) rfl (@Xb _ _ _ _ _ (@YD _ _ (4) _ rK.nd rfl (.inl rfl) (by first | exact .inl rfl | exact .inr rfl | assumption)) (@Xb _ _ _ _ _ (@YD _ _ (5) _ rK.nd rfl (.inl rfl) (by first | exact .inl rfl | exact .inr rfl | assumption)) X9 (by rfl)) (by rfl)) (by rfl) (by rfl)) (@Yd _ _ _ _ _ (@Yv _ _ (6) _ _ _ _ rK.nd rfl (.inl rfl) (@Yr _ _ _ _ _ _ _ _ _ _ _ _ rQ hr (@Ya _ _ _ _ _ (pv 0) (@Ya _ _ _ _ _ (pv 4) (@Ya _ _ _ _ _ (pv 5) Yc (by rfl)) (by rfl)) (by rfl)) (by omega) (by rfl) (by rfl) (by decide) (by rfl) (by rfl)) (by rfl) (by first | exact .inl rfl | exact .inr rfl | assumption)) (@Yd _ _ _ _ _ (@Yy _ _ _ _ _ _ _ _ (@Yt _ _ _ _ _ _ _ _ VN (pv 6) Xk (Yq _)) (@Yf _ _ _ (@Yl _ _ _ _ Xk)) Yp) (@Yf _ _ _ (@Xc _ _ _ _ (@X4 _ _ _ _ _ _ _ _ _ _ _ _ bt bE ci Xv (pv 3) (@Ya _ _ _ _ _ (pv 6) Yc (by rfl)) (by rfl) (by rfl) (by rfl) (by rfl) (by rfl)) (by rfl))))) (by intro _;rfl)) (@Yf _ _ _ (@Yl _ _ _ _ (@Yr _ _ _ _ _ _ _ _ _ _ _ _ qC hr (@Ya _ _ _ _ _ (pv 1) (@Ya _ _ _ _ _ (pv 2) (@Ya _ _ _ _ _ (pv 3) Yc (by rfl)) (by rfl)) (by rfl)) (by omega) (by rfl) (by rfl) (by decide) (by rfl) (by rfl))))))),?_⟩;refine Ym fun R rr=>?_
 walk_at "rd";rcases hv.form with ⟨hf,er⟩ | ⟨hf,L,hw⟩
 ·exact ⟨lo,a,s,v,_,rfl,hS,hf,fun H1 s1=>⟨_,rfl,Y3 rfl (q0 H1 s1 er)⟩⟩
 refine ⟨lo,a,s,v,_,rfl,hS,hf,fun H1 s1=>?_⟩;walk_at "rd";refine rr _ _ (Ym fun R rr=>?_);walk_at "rd";refine ⟨few (by decide),fun p gp=>rr _ _ (Ym fun R rr=>?_)⟩;have sp:=Yg.aj gp (.lst []);have s2:=s1.trans sp;obtain ⟨hL,Dq⟩:=hw.len;obtain ⟨rn,rs⟩:=hw.r;have Dr:=hw.vx;refine VB (fun l xs H2=>∃ (ts:List Addr),xs=ts.map V.ref/\Yg (upd H1 p (.lst [])) H2/\H2 l=some (.lst (ts.map V.ref))/\l≠p/\Ut H2 lo ts L) (fun R r=>?_) ?_
 ·walk_at "rd"
  exact ⟨B,lo,a,s,v,_,L,rfl,hB.kt (Yn s2),hS.kt (Yn s2),hw.kt (Yn s2),fun D ts H' s' gD hD hl pr=>r D _ H' (aA.of hD) ⟨ts,rfl,s',hD,(fun e=>by rw [e,Yb] at gD;cases gD),pr.1,fun i t w e1 e2=>by
   obtain ⟨p,h1,h2,_⟩:=pr.2 i t w e1 e2;exact ⟨p,h1,h2⟩⟩⟩
 ·rintro l xs H2 hS2 ⟨ts,rfl,s3,hl,hlp,pr⟩
  have qD:=pr.1;refine ⟨WgV H1 lo B a v p l ts L,⟨none,none,none,[],rfl,sp.trans s3,s3 _ _ Yb,hl,pr,⟨rfl,fun i k n h=>by cases h⟩,(fun w h=>by cases h)⟩,fun i σ H' _ ⟨_,_,_,_,_,_,_,hl',_,_,_⟩=>aA.of hl',?_,?_⟩
  ·rintro i x σ H' hx ⟨o4,o5,o6,ks,rfl,s4,pP,Ng,pr4,rR,al⟩
   rw [Υ] at hx
   obtain ⟨t,ht,rfl⟩:=ο.mp hx;have hi:=(Η.mp ht).1;have hwi:L[i]?=some (L[i]'(by omega)):=Λ _;generalize L[i]'(by omega)=w at hwi;have gG:=Χ hwi;obtain ⟨b,e1,e2⟩:=pr4.2 i t w ht hwi;have kl:=rR.1;rw [gz,Θ,ν] at kl
   refine ⟨t,_,rfl,aq.of e1,rfl,_,_,rfl,_,_,rfl,rfl,Ym fun R rr=>?_⟩;walk_at "rd";have:=Dq w gG;have Ds:=s1.trans s4;refine ⟨B,lo,b,w.1,w.2.1,w.2.2,rfl,hB.kt (Yn Ds),e2,(Dr w gG).kt (Yn Ds),by omega,fun H5 s5 en=>rr _ _ (Ym fun R rr=>?_),fun k t n H5 s5 en Nh=>rr _ _ (Ym fun R rr=>?_)⟩
   ·walk_at "rd"
    exact q0 H5 (Ds.trans s5) (rn ⟨w,gG,en⟩)
   walk_at "rd";refine YC (by intro z;cases z) (rr _ _ ?_);walk_at "rd";refine ⟨.inl ⟨rfl,_,aA.of (s5 _ _ pP)⟩,_,s5 _ _ pP,few (by simp;omega),?_⟩;have tp:Tp H' (upd H5 p (.lst (ks.map V.ref++[.ref k]))):=(YX (Yn s5)).trans (WH (s5 _ _ pP));refine ⟨_,_,_,ks++[k],rfl,.cO gp (s4.trans s5) _,by rw [Yb,am];rfl,by rw [Ye hlp];exact s5 _ _ Ng,pr4.tp tp,⟨?_,fun j k' n' h1 h2=>?_⟩,fun x hx=>?_⟩
   ·rw [Κ,gz,Θ,ν,kl,ω];omega
   ·rw [Xl hwi,gz,am] at h2
    by_cases c:j<ks.length
    ·rw [υ c] at h1
     rw [υ (by rw [Θ,ν];omega)] at h2
     obtain ⟨r',e⟩:=rR.2 j k' n' h1 h2;exact ⟨r',tp _ _ e⟩
    ·have hj:j=ks.length:=by
      have:=(Η.mp h1).1;rw [Κ,ω] at this
      omega
     subst hj;rw [ac (Ν _),eJ] at h1
     cases Ε h1
     rw [ac (by rw [Θ,ν];omega),Θ,ν,show ks.length - min i L.length=0 by omega] at h2
     have h2:w.2.2.getD 0=n':=Ε h2;rw [en] at h2
     have h2:n=n':=h2;subst h2;exact ⟨t,by rw [Ye (YE Nh (s5 _ _ pP) (by intro z;cases z))];exact Nh⟩
   ·rcases Yel hwi hx with hx | rfl
    ·exact al x hx
    ·rw [en];rfl
  ·rintro σ H' ⟨o4,o5,o6,ks,rfl,s4,pP,Ng,pr4,rR,al⟩
   rw [Θ,qD,dS] at rR al
   have Iz:=rs al
   cases r with
   | none=>cases Iz
   | some n =>
    refine rr _ _ ?_;walk_at "rd";have s5:=s1.trans s4;exact ⟨lo,a,s,v,n,L,p,ks,rfl,hS.kt (Yn s5),hw.kt (Yn s5),pP,rR,fun k t H6 s6 hk6=>q k t n H6 (s5.trans s6) rfl hk6⟩
theorem Ni (s:Sd):jg s<=4:=by cases s<;>decide
inductive rT (K:Ι) (vs:List V) (H:Hp) (Q:VK) (E_:XK):Prop
 | mk (B:Addr) (lo:Int) (a:Addr) (s:Sd) (v:V) (n:Nat) (h0:vs=[.ref B,.ref a,v]) (h1:cX H lo B) (h2:Y7 H lo a s) (h3:Vx H lo s v (some n)) (h4:∀ k r H',Yg H H'->H' k=some (.tup (.int (n:Nat)::r))->Q (.ref k) H')
theorem Z41 {k:Nat}  (R:g.Raw "key_or_refusal" "key_or_refusal" Bl ["book","shape","value"]) (rQ:g.Fn k "weighed" ["book","shape","value"] (rP g.K 4)):g.Fn (k+1) "key_or_refusal" ["book","shape","value"] (rT g.K):=by
 refine R.fn M6 (fun vs H Q E h=>by obtain ⟨B,lo,a,s,v,n,rfl,hB,hS,hv,q⟩:=h;rfl) fun f_ cdv A outer s H vs Q E hr h=>?_
 obtain ⟨B,lo,a,s,v,n,rfl,hB,hS,hv,q⟩:=h;refine ⟨_,(@Yd _ _ _ _ _ (@Yv _ _ (3) _ _ _ _ M6.nd rfl (.inl rfl) (@Yr _ _ _ _ _ _ _ _ _ _ _ _ rQ hr (@Ya _ _ _ _ _ (pv 0) (@Ya _ _ _ _ _ (pv 1) (@Ya _ _ _ _ _ (pv 2) Yc (by rfl)) (by rfl)) (by rfl)) (by omega) (by rfl) (by rfl) (by decide) (by rfl) (by rfl)) (by rfl) (by first | exact .inl rfl | exact .inr rfl | assumption)) (@Yd _ _ _ _ _ (@Yy _ _ _ _ _ _ _ _ (@Yt _ _ _ _ _ _ _ _ VN (pv 3) Xk (Yq _)) (@Yf _ _ _ YI) Yp) (@Yf _ _ _ (@Yl _ _ _ _ (pv 3))))),?_⟩;refine Ym fun R rr=>?_
 walk_at "rd";refine ⟨B,lo,a,s,v,_,rfl,hB,hS,hv,Ni s,(fun _ _ e=>by cases e),fun k r n' H' s' e hk=>rr _ _ (Ym fun R rr=>?_)⟩
 cases Ε e
 walk_at "rd";refine YC (by intro z;cases z) (rr _ _ ?_);walk_at "rd";exact q k r H' s' hk
inductive pQ (K:Ι) (vs:List V) (H:Hp) (Q:VK) (E_:XK):Prop
 | mk (B:Addr) (lo:Int) (a:Addr) (s:Sd) (v:V) (r:Option Nat) (h0:vs=[.ref B,.ref a,v]) (h1:cX H lo B) (h2:Y7 H lo a s) (h3:Vx H lo s v r) (h4:∀ H',Yg H H'->Q (.bl r.isSome) H')
theorem YfG {k:Nat}  (R:g.Raw "fits" "fits" Bp ["book","shape","value"]) (rQ:g.Fn k "weighed" ["book","shape","value"] (rP g.K 4)):g.Fn (k+1) "fits" ["book","shape","value"] (pQ g.K):=by
 refine R.fn YfE (fun vs H Q E h=>by obtain ⟨B,lo,a,s,v,r,rfl,hB,hS,hv,q⟩:=h;rfl) fun f_ cdv A outer s H vs Q E hr h=>?_
 obtain ⟨B,lo,a,s,v,r,rfl,hB,hS,hv,q⟩:=h;refine ⟨_,(@Yf _ _ _ (@Yl _ _ _ _ (@Xn _ _ _ _ _ _ _ _ V0 (@Yr _ _ _ _ _ _ _ _ _ _ _ _ rQ hr (@Ya _ _ _ _ _ (pv 0) (@Ya _ _ _ _ _ (pv 1) (@Ya _ _ _ _ _ (pv 2) Yc (by rfl)) (by rfl)) (by rfl)) (by omega) (by rfl) (by rfl) (by decide) (by rfl) (by rfl)) Xk (Yq _)))),?_⟩;walk_at "rd";refine ⟨B,lo,a,s,v,_,rfl,hB,hS,hv,Ni s,fun H' s' e=>?_,fun k t n H' s' e hk=>?_⟩
 ·have:=q H' s'
  rw [e] at this
  rw [decide_eq_true rfl];exact this
 ·have:=q H' s'
  rw [e] at this
  rw [decide_eq_false (by intro z;cases z)];exact this
inductive rW (K:Ι) (vs:List V) (H:Hp) (Q:VK) (E_:XK):Prop
 | mk (B:Addr) (lo:Int) (a:Addr) (s:Sd) (v:V) (n:Nat) (h0:vs=[.ref B,.ref a,v]) (h1:cX H lo B) (h2:Y7 H lo a s) (h3:Vx H lo s v (some n)) (h4:∀ H',Yg H H'->Q (.int (n:Nat)) H')
theorem Ycc {k:Nat}  (R:g.Raw "size_of" "size_of" Br ["book","shape","value"]) (Z4l:g.Fn k "key_or_refusal" ["book","shape","value"] (rT g.K)):g.Fn (k+1) "size_of" ["book","shape","value"] (rW g.K):=by
 refine R.fn Yb9 (fun vs H Q E h=>by obtain ⟨B,lo,a,s,v,n,rfl,hB,hS,hv,q⟩:=h;rfl) fun f_ cdv A outer s H vs Q E hr h=>?_
 obtain ⟨B,lo,a,s,v,n,rfl,hB,hS,hv,q⟩:=h;refine ⟨_,(@Yf _ _ _ (@Yl _ _ _ _ (@Yu _ _ _ _ _ _ _ Yw (@Yr _ _ _ _ _ _ _ _ _ _ _ _ Z4l hr (@Ya _ _ _ _ _ (pv 0) (@Ya _ _ _ _ _ (pv 1) (@Ya _ _ _ _ _ (pv 2) Yc (by rfl)) (by rfl)) (by rfl)) (by omega) (by rfl) (by rfl) (by decide) (by rfl) (by rfl)) Yh (fun _ _=>rfl)))),?_⟩;walk_at "rd";exact ⟨B,lo,a,s,v,n,rfl,hB,hS,hv,fun k r H' s' hk=>⟨_,rfl,_,aq.of hk,_,Yk (j:=0) rfl,q H' s'⟩⟩
inductive nu (K:Ι) (C:Addr) (vs:List V) (H:Hp) (Q:VK) (E:XK):Prop
 | mk (B:Addr) (lo:Int) (a:Addr) (s:Sd) (v:V) (r:Option Nat) (h0:vs=[.ref B,.ref a,v]) (h1:cX H lo B) (h2:Y7 H lo a s) (h3:Vx H lo s v r) (h4:(r.isSome=true->∀ H',Yg H H'->Q .non H')) (h5:(r=none->∀ H' d,Yg H H'->H' d=none->E (.ref C) (some d) (upd H' d (XY d [("value",v)]))))
theorem Z3J {k:Nat} {Z5:Addr} (R:g.Raw "refuse_no_value" "refuse_no_value" Bq ["book","shape","value"]) (Dt:g.Fn k "fits" ["book","shape","value"] (pQ g.K)) (Z3K:g.vM "NoValue" Z5 ["self","value"] ["value"]) (hki:2<=k):g.fV (k+1) "refuse_no_value" ["book","shape","value"] (nu g.K Z5):=by
 refine R.fnX Z3C (fun vs H Q E h=>by obtain ⟨B,lo,a,s,v,r,rfl,hB,hS,hv,q,qe⟩:=h;rfl) fun f_ cdv A outer s H vs Q E hr h=>?_
 obtain ⟨B,lo,a,s,v,r,rfl,hB,hS,hv,q,qe⟩:=h;refine ⟨_,(@Yf _ _ _ (@Yy _ _ _ _ _ _ _ _ (@Xt _ _ _ _ (@YT _ _ _ (@Yr _ _ _ _ _ _ _ _ _ _ _ _ Dt hr (@Ya _ _ _ _ _ (pv 0) (@Ya _ _ _ _ _ (pv 1) (@Ya _ _ _ _ _ (pv 2) Yc (by rfl)) (by rfl)) (by rfl)) (by omega) (by rfl) (by rfl) (by decide) (by rfl) (by rfl)) (by intro _;rfl))) (@Yf _ _ _ (@Yde _ _ _ _ _ _ _ _ _ _ _ _ _ _ Z3K hr Ygb (@Ya _ _ _ _ _ (pv 2) Yc (by rfl)) (by omega) (by rfl) (by rfl) (by rfl) (by decide) (by rfl) (by rfl))) Yp)),?_⟩;walk_at "rd";refine ⟨B,lo,a,s,v,r,rfl,hB,hS,hv,fun H' s'=>?_⟩
 cases r with
 | some n=>exact ⟨_,rfl,YC (fun h=>by cases h) (q rfl H' s')⟩
 | none =>
  refine ⟨_,rfl,Y3 rfl ?_⟩;unfold Mq;walk_at "rd";exact ⟨by decide,fun d hd=>qe rfl H' d s' hd⟩
def SameBut (p:Addr) (H H':Hp):Prop:=∀ q o,q≠p->H q=some o->H' q=some o
structure Cs where
 w:Addr
 row:Addr
 tab:Addr
def fW (lo:Int) (span:Nat):List (Str×V):=[("low",.int lo),("span",.int span)]
def fR (P T:Addr):List (Str×V):=[("parts",.ref P),("table",.ref T)]
def Vf (P L:Addr):List (Str×V):=[("parts",.ref P),("ways",.ref L)]
def mf (c:Addr) (fs:List (Str×V)):List (Str×V):=("counts",.ref c)::fs
theorem Vo {fs:List (Str×V)} (h:fs.length<=3):fs.length<1000:=by omega
def isC (C:Cs) (c:Addr):Prop:=c=C.w\/c=C.row
inductive Du (C:Cs) (vs:List V) (H:Hp) (Q:VK) (E_:XK):Prop
 | mk (p dx cl:Addr) (h0:vs=[.ref p]) (h1:isC C cl) (h2:H p=some (.ins cl dx [])) (h3:∀ c,H c=none->Q .non (upd (upd H c (.lst [])) p (.ins cl dx [("counts",.ref c)])))
theorem Z42 {Z1 Z2 Z0:Addr} (R:g.m6 "Maker" "__init__" "Maker.__init__" Dh ["self"]) (Zd:Cls g.K Z1) (Za:Yo g.K Z1 "counts") (Zg:Yo g.K Z1 "parts") (Zh:Yo g.K Z1 "table") (Z9:Cls g.K Z0) (Z8:Yo g.K Z0 "counts") (Zi:Yo g.K Z0 "low") (Zb:Yo g.K Z0 "span"):g.Cf (1) "Maker" "__init__" ["self"] (Du (Cs.mk Z0 Z1 Z2)):=by
 refine R.cf Z3Z (fun vs H Q E h=>by obtain ⟨p,dx,cl,rfl,hC,hp,q⟩:=h;rfl) fun f_ cdv A outer s H vs Q E hr h=>?_
 obtain ⟨p,dx,cl,rfl,hC,hp,q⟩:=h;refine ⟨_,(@Yf _ _ _ (@XR _ _ _ _ _ _ _ _ (pv 0) (@Y0 _ _ _ _ Yc) rfl)),?_⟩;walk_at "rd";refine ⟨few (by decide),fun c hc=>⟨cl,dx,[],by rw [Ye (Yj hp hc)];exact hp,?_,?_,by decide,q c hc⟩⟩
 ·rcases hC with rfl | rfl<;>assumption
 ·rcases hC with rfl | rfl<;>assumption
theorem n1 {a b:Str} (h:(a==b)=false):¬ a=b:=fun z=>by rw [z] at h;simp at h
theorem Dv {f:Str} {v:V} {c:Addr} (h:¬ (("counts":Str)=f)):Y5 f v [("counts",.ref c)]=mf c [(f,v)]:=by simp only [Y5,if_neg h];rfl
theorem put2 {f f':Str} {v v':V} {c:Addr} (h:¬ (("counts":Str)=f)) (h2:¬ f'=f):Y5 f v (mf c [(f',v')])=mf c [(f',v'),(f,v)]:=by
 show Y5 f v [(("counts":Str),V.ref c),(f',v')]=_
 simp only [Y5,if_neg h,if_neg h2];rfl
inductive Nj (C:Cs) (vs:List V) (H:Hp) (Q:VK) (E_:XK):Prop
 | mk (p dx:Addr) (lo:Int) (span:Nat) (h0:vs=[.ref p,.int lo,.int (lo+span)]) (h1:H p=some (.ins C.w dx [])) (h2:∀ c H',H c=none->SameBut p H H'->H' p=some (.ins C.w dx (mf c (fW lo span)))->H' c=some (.lst [])->Q .non H')
theorem Z2h {k:Nat} {Z1 Z2 Z0:Addr} (R:g.fC "WholeMaker" Z0 "WholeMaker.__init__" Cy ["self","low","high"]) (Dw:g.Cf k "Maker" "__init__" ["self"] (Du (Cs.mk Z0 Z1 Z2))) (Z9:Cls g.K Z0) (Z8:Yo g.K Z0 "counts") (Zi:Yo g.K Z0 "low") (Zb:Yo g.K Z0 "span"):g.Ma (k+1) "WholeMaker" Z0 ["self","low","high"] (Nj (Cs.mk Z0 Z1 Z2)):=by
 refine R.ma Z2d (fun vs H Q E h=>by obtain ⟨p,dx,lo,span,rfl,hp,q⟩:=h;rfl) fun f_ cdv A outer s H vs Q E hr h=>?_
 obtain ⟨p,dx,lo,span,rfl,hp,q⟩:=h;refine ⟨_,(@Yd _ _ _ _ _ (@Xc _ _ _ _ (@KZ _ _ _ _ _ _ _ _ _ _ _ _ _ _ _ Dw hr (@Ya _ _ _ _ _ (pv 0) Yc (by rfl)) (by omega) (by rfl) (by rfl) (by decide) (by rfl) (by rfl) (by rfl)) (by rfl)) (@Yd _ _ _ _ _ (@XR _ _ _ _ _ _ _ _ (pv 0) (pv 1) rfl) (@Yf _ _ _ (@XR _ _ _ _ _ _ _ _ (pv 0) (@Ys _ _ _ _ _ _ _ _ Wh (pv 2) (pv 1)) rfl)))),?_⟩;walk_at "rd";refine ⟨p,dx,_,rfl,.inl rfl,hp,fun c hc=>?_⟩;have hne:p≠c:=Yj hp hc;refine ⟨_,dx,_,Yb,Z9,Zi,Vo (show 1<=3 by decide),_,dx,_,Yb,Z9,Zb,Vo (ap (Vb _ _ _) (show 2<=3 by decide)),?_⟩;refine q c _ hc (fun x o hx h=>?_) ?_ ?_
 ·rw [Ye hx,Ye hx,Ye hx,Ye (Yj h hc)];exact h
 ·rw [Yb,show lo+(span:Int) - lo=span by omega,Dv (n1 (by decide +kernel)),put2 (n1 (by decide +kernel)) (n1 (by decide +kernel))];rfl
 ·rw [Ye (ψ hne),Ye (ψ hne),Ye (ψ hne),Yb]
inductive Nk (C:Cs) (vs:List V) (H:Hp) (Q:VK) (E_:XK):Prop
 | mk (T dx P:Addr) (as:List Addr) (h0:vs=[.ref T,.ref P]) (h1:H T=some (.ins C.tab dx [])) (h2:H P=some (.lst (as.map V.ref))) (h3:as.length<=100) (h4:∀ L (ws:List Addr) H',H L=none->(∀ x∈ws,H x=none)->ws.Nodup->ws.length=as.length+1->SameBut T H H'->H' T=some (.ins C.tab dx (Vf P L))->H' L=some (.lst (ws.map V.ref))->(∀ x∈ws,H' x=some (.lst []))->Q .non H')
theorem Z2V {Z1 Z2 Z0:Addr} (R:g.fC "RowTable" Z2 "RowTable.__init__" CK ["self","parts"]) (aH:g.mg "len"=none) (Zw:g.mg "range"=none) (Zm:Cls g.K Z2) (Zo:Yo g.K Z2 "parts") (Zl:Yo g.K Z2 "ways"):g.Ma (1) "RowTable" Z2 ["self","parts"] (Nk (Cs.mk Z0 Z1 Z2)):=by
 refine R.ma Z2R (fun vs H Q E h=>by obtain ⟨T,dx,P,as,rfl,hT,hP,hl,q⟩:=h;rfl) fun f_ cdv A outer s H vs Q E hr h=>?_
 obtain ⟨T,dx,P,as,rfl,hT,hP,hl,q⟩:=h;refine ⟨_,(@Yd _ _ _ _ _ (@XR _ _ _ _ _ _ _ _ (pv 0) (pv 1) rfl) (@Yf _ _ _ (@XR _ _ _ _ _ _ _ _ (pv 0) (@XO _ _ _ _ _ _ _ ([none]) ((["place"]:List Str)) _ (YW 0) _ _ (.own .nil) rfl (@WZ _ _ _ _ _ _ rfl Zw (@Ya _ _ _ _ _ (@Ys _ _ _ _ _ _ _ _ Xa (@YA _ _ _ _ _ _ _ _ _ _ aH YF (@Ya _ _ _ _ _ (pv 1) Yc (by rfl)) (by decide +kernel) (by rfl) (by rfl) (by decide) (by decide) (by rfl) (by rfl)) Yh) Yc (by rfl)) (by rfl)) (fun cl C s₀ H₀ fp pn=>(@YD _ _ (0) _ (show bu (["place"]:List Str) by decide +kernel) rfl (.inl rfl) (.inr rfl))) (fun cl C s₀ H₀ fp pn=>Xp) (fun cl C s₀ H₀ fp pn=>(@Y0 _ _ _ _ Yc)) (by intro x hx;simp at hx) (by rfl) (by decide) (by decide +kernel) (by intro _;rfl)) rfl))),?_⟩;walk_at "rd";have nTP:T≠P:=YE hT hP (by simp);refine ⟨_,dx,_,hT,Zm,Zo,by decide,?_⟩;obtain ⟨H1,hH1⟩:∃ H1,H1=upd H T (.ins Z2 dx (Y5 "parts" (.ref P) [])):=⟨_,rfl⟩;rw [<- hH1];have Dz:H1 T=some (.ins Z2 dx (Y5 "parts" (.ref P) [])):=by rw [hH1,Yb]
 have h1:∀ {b:Addr},b≠T->H1 b=H b:=fun n=>by rw [hH1,Ye n]
 refine Vv (n:=as.length+1) (fun D i zs H'=>∃ ws:List Addr,zs=ws.map V.ref/\ws.length=i/\ws.Nodup/\(∀ x∈ws,H1 x=none/\x≠D/\H' x=some (.lst []))/\H' D=some (.lst zs)/\∀ b o,b≠D->H1 b=some o->H' b=some o) (fun R r=>?_) (by omega) ?_ ?_ ?_ ?_
 ·walk_at "rd"
  refine ⟨_,.inl (aA.of ((h1 (ψ nTP)).trans hP)),?_⟩;rw [Θ];exact r
 ·intro D hD
  exact ⟨[],rfl,rfl,.nil,fun x hx=>(by cases hx),Yb,fun b o hb e=>by rw [Ye hb];exact e⟩
 ·rintro D i zs H' ⟨ws,rfl,h2,_,_,h3,_⟩
  exact ⟨by rw [Θ,h2],h3⟩
 ·rintro D i zs H' hD hi ⟨ws,rfl,hwl,hnd,hws,hd,fr⟩ R r
  walk_at "rd";refine ⟨few (by decide),fun X gX=>?_⟩;have wA:X≠D:=ψ (Yj hd gX);have sX:=Yg.aj gX (.lst []);have gX1:H1 X=none:=by
   cases e:H1 X with
   | none=>rfl
   | some o=>rw [fr X o wA e] at gX;cases gX
  refine r _ _ (sX _ _ hd) ⟨ws++[X],by rw [am];rfl,by rw [Κ,hwl];rfl,?_,fun x hx=>?_,Yb,fun b o hb e=>by rw [Ye hb];exact sX _ _ (fr b o hb e)⟩
  ·rw [iO]
   refine ⟨hnd,by simp,fun x hx y hy=>?_⟩;have:y=X:=by simpa using hy
   subst this;intro z;subst z;rw [(hws x hx).2.2] at gX
   cases gX
  ·rcases τ.mp hx with hx | hx
   ·obtain ⟨k1,k2,k3⟩:=hws x hx
    exact ⟨k1,k2,by rw [Ye k2];exact sX _ _ k3⟩
   ·have:x=X:=by simpa using hx
    subst this;exact ⟨gX1,wA,by rw [Ye wA,Yb]⟩
 ·rintro L zs H' hL ⟨ws,rfl,hwl,hnd,hws,hd,fr⟩
  have Nm:L≠T:=ψ (Yj Dz hL);have nf:∀ {b:Addr},H1 b=none->H b=none:=fun {b} e=>by
   by_cases c:b=T
   ·subst c;rw [Dz] at e;cases e
   ·rw [<- h1 c];exact e
  have Np:=fr T _ (ψ Nm) Dz;refine ⟨_,dx,_,Np,Zm,Zl,Vo (show 1<=3 by decide),?_⟩;have nw:∀ x∈ws,x≠T:=fun x hx=>YE (hws x hx).2.2 Np (by simp)
  refine q L ws _ (nf hL) (fun x hx=>nf (hws x hx).1) hnd hwl (fun b o hb e=>?_) ?_ (by rw [Ye Nm];exact hd) (fun x hx=>by rw [Ye (nw x hx)];exact (hws x hx).2.2)
  ·rw [Ye hb]
   exact fr b o (Yj ((h1 hb).trans e) hL) ((h1 hb).trans e)
  ·rw [Yb]
   refine congrArg some (congrArg (HO.ins _ _) ?_)
   show Y5 "ways" (.ref L) [(("parts":Str),V.ref P)]=Vf P L
   simp only [Y5,if_neg (n1 (a:=("parts":Str)) (b:=("ways":Str)) (by decide +kernel))];rfl
inductive Nq (C:Cs) (vs:List V) (H:Hp) (Q:VK) (E_:XK):Prop
 | mk (p dx P:Addr) (as:List Addr) (h0:vs=[.ref p,.ref P]) (h1:H p=some (.ins C.row dx [])) (h2:H P=some (.lst (as.map V.ref))) (h3:as.length<=100) (h4:∀ c T dt L (ws:List Addr) H',H c=none->H T=none->H L=none->(∀ x∈ws,H x=none)->(c::ws).Nodup->ws.length=as.length+1->SameBut p H H'->H' p=some (.ins C.row dx (mf c (fR P T)))->H' c=some (.lst [])->H' T=some (.ins C.tab dt (Vf P L))->H' L=some (.lst (ws.map V.ref))->(∀ x∈ws,H' x=some (.lst []))->Q .non H')
theorem Z2W {k:Nat} {Z1 Z2 Z0:Addr} (R:g.fC "RowMaker" Z1 "RowMaker.__init__" CQ ["self","parts"]) {fu:Nat} (Z3j:g.Ma fu "RowTable" Z2 ["self","parts"] (Nk (Cs.mk Z0 Z1 Z2))) (qT:fu+1<=k) (Dw:g.Cf k "Maker" "__init__" ["self"] (Du (Cs.mk Z0 Z1 Z2))) (Zd:Cls g.K Z1) (Za:Yo g.K Z1 "counts") (Zg:Yo g.K Z1 "parts") (Zh:Yo g.K Z1 "table"):g.Ma (k+1) "RowMaker" Z1 ["self","parts"] (Nq (Cs.mk Z0 Z1 Z2)):=by
 refine R.ma Z2S (fun vs H Q E h=>by obtain ⟨p,dx,P,as,rfl,hp,hP,hl,q⟩:=h;rfl) fun f_ cdv A outer s H vs Q E hr h=>?_
 obtain ⟨p,dx,P,as,rfl,hp,hP,hl,q⟩:=h;refine ⟨_,(@Yd _ _ _ _ _ (@Xc _ _ _ _ (@KZ _ _ _ _ _ _ _ _ _ _ _ _ _ _ _ Dw hr (@Ya _ _ _ _ _ (pv 0) Yc (by rfl)) (by omega) (by rfl) (by rfl) (by decide) (by rfl) (by rfl) (by rfl)) (by rfl)) (@Yd _ _ _ _ _ (@XR _ _ _ _ _ _ _ _ (pv 0) (pv 1) rfl) (@Yf _ _ _ (@XR _ _ _ _ _ _ _ _ (pv 0) (@UH _ _ _ _ _ _ _ _ _ _ _ _ _ Z3j hr (@Ya _ _ _ _ _ (pv 1) Yc (by rfl)) (by omega) (by rfl) (by rfl) (by decide) (by rfl) (by rfl)) rfl)))),?_⟩;walk_at "rd";refine ⟨p,dx,_,rfl,.inr rfl,hp,fun c hc=>?_⟩;have hne:p≠c:=Yj hp hc;have npP:p≠P:=YE hp hP (by simp);have jJ:P≠c:=Yj hP hc;refine ⟨_,dx,_,Yb,Zd,Zg,Vo (show 1<=3 by decide),?_⟩;obtain ⟨H1,hH1⟩:∃ H1,H1=upd (upd (upd H c (.lst [])) p (.ins Z1 dx [("counts",.ref c)])) p (.ins Z1 dx (Y5 "parts" (.ref P) [("counts",.ref c)])):=⟨_,rfl⟩;rw [<- hH1];have DG:H1 p=some (.ins Z1 dx (mf c [("parts",.ref P)])):=by rw [hH1,Yb,Dv (n1 (by decide +kernel))]
 have DN:H1 c=some (.lst []):=by rw [hH1,Ye (ψ hne),Ye (ψ hne),Yb]
 have h1:∀ {b:Addr} {o:HO},b≠p->H b=some o->H1 b=some o:=fun n e=>by rw [hH1,Ye n,Ye n,Ye (Yj e hc)];exact e
 have nf:∀ {b:Addr},H1 b=none->H b=none:=fun {b} e=>by
  cases z:H b with
  | none=>rfl
  | some o =>
   exfalso;by_cases cc:b=p
   ·subst cc;rw [DG] at e;cases e
   ·rw [h1 cc z] at e;cases e
 intro T dt gT gdt hnd;have sd:=Yg.aj gdt (.own T);have gT2:upd H1 dt (.own T) T=none:=by rw [Ye (ψ hnd)];exact gT
 have s12:=sd.trans (.aj gT2 (.ins Z2 dt []));refine ⟨T,dt,P,as,rfl,Yb,s12 _ _ (h1 (ψ npP) hP),hl,fun L ws H3 gL wB Sg hwl sb DP rY wC=>?_⟩;have Nr:p≠T:=Yj DG gT;have ncT:c≠T:=Yj DN gT;have rZ:=sb _ _ Nr (s12 _ _ DG);have wD:=sb _ _ ncT (s12 _ _ DN);have DQ:c∉ws:=fun z=>by have:=wB c z;rw [s12 _ _ DN] at this;cases this
 have sy:∀ x∈ws,x≠p:=fun x hx=>YE (wC x hx) rZ (by simp)
 have npL:L≠p:=YE rY rZ (by simp);refine ⟨rfl,_,dx,_,rZ,Zd,Zh,Vo (show 2<=3 by decide),?_⟩;refine q c T dt L ws _ hc (nf gT) (nf (s12.free gL)) (fun x hx=>nf (s12.free (wB x hx))) (bg.mpr ⟨DQ,Sg⟩) hwl (fun b o hb e=>?_) ?_ ?_ ?_ ?_ (fun x hx=>?_)
 ·rw [Ye hb]
  exact sb _ _ (Yj (h1 hb e) gT) (s12 _ _ (h1 hb e))
 ·rw [Yb,put2 (n1 (by decide +kernel)) (n1 (by decide +kernel))];rfl
 ·rw [Ye (ψ hne)];exact wD
 ·rw [Ye (ψ Nr)];exact DP
 ·rw [Ye npL];exact rY
 ·rw [Ye (sy x hx)];exact wC x hx
def lf (b:V) (d:Addr):List (Str×V):=[("book",b),("makers",.ref d)]
theorem nbm:¬ (("book":Str)="makers"):=by decide +kernel
theorem Ygg (b:V) (d:Addr):Y5 "makers" (.ref d) (Y5 "book" b [])=lf b d:=by
 simp only [Y5,if_neg nbm];rfl
theorem W7 (b:V) (d:Addr):(lf b d).lookup ("makers":Str)=some (.ref d):=by
 show bn ("makers":Str) [(("book":Str),b),(("makers":Str),V.ref d)]=_
 rw [ι,show (("makers":Str)==("book":Str))=false by decide +kernel,ι,show (("makers":Str)==("makers":Str))=true by decide +kernel]
theorem Nt (b:V) (d:Addr) {m:Str} (h1:(m==("book":Str))=false) (h2:(m==("makers":Str))=false):(lf b d).lookup m=none:=by
 show bn m [(("book":Str),b),(("makers":Str),V.ref d)]=_
 rw [ι,h1,ι,h2];rfl
inductive Nu (P:Ρ) (w:Ω) (C:Addr) (vs:List V) (H:Hp) (Q:VK) (E_:XK):Prop
 | mk (p dx:Addr) (b:V) (h0:vs=[.ref p,b]) (h1:H p=some (.ins C dx [])) (h2:∀ d H',H d=none->SameBut p H H'->H' p=some (.ins C dx (lf b d))->H' d=some (fj P w d [])->Q .non H')
theorem Z3L {Z7:Addr} (R:g.fC "Lister" Z7 "Lister.__init__" Cr ["self","book"]) (Zu:Cls g.K Z7) (Zy:Yo g.K Z7 "book") (Zn:Yo g.K Z7 "makers"):g.Ma (1) "Lister" Z7 ["self","book"] (Nu g.P g.w Z7):=by
 refine R.ma Z3G (fun vs H Q E h=>by obtain ⟨p,dx,b,rfl,hp,q⟩:=h;rfl) fun f_ cdv A outer s H vs Q E hr h=>?_
 obtain ⟨p,dx,b,rfl,hp,q⟩:=h;refine ⟨_,(@Yd _ _ _ _ _ (@XR _ _ _ _ _ _ _ _ (pv 0) (pv 1) rfl) (@Yf _ _ _ (@XR _ _ _ _ _ _ _ _ (pv 0) Yd8 rfl))),?_⟩;walk_at "rd";refine ⟨Z7,dx,[],hp,Zu,Zy,by decide,fun d hd=>?_⟩;have hne:p≠d:=Yj Yb hd;rw [Ye (ψ hne)] at hd
 refine ⟨Z7,dx,_,by rw [Ye hne];exact Yb,Zu,Zn,by simp [Y5],q d _ hd (fun x o hx h=>?_) ?_ ?_⟩
 ·rw [Ye hx,Ye (Yj h hd),Ye hx];exact h
 ·rw [Yb,Ygg]
 ·rw [Ye (ψ hne),Yb]
  rfl
theorem XH {H:Hp} {a b:Addr} {o:HO} (h:upd H a o b=none):H b=none:=by
 by_cases e:b=a
 ·subst e;rw [Yb] at h;cases h
 ·rw [Ye e] at h;exact h
theorem W8 {H H':Hp} {x dx:Addr} {o u:HO} (hx:H x=none) (hdx:H dx=none) (sb:SameBut x (upd (upd H dx o) x u) H'):Yg H H':=fun y z h=>by
 have n1:y≠x:=Yj h hx;have n2:y≠dx:=Yj h hdx;exact sb _ _ n1 (by rw [Ye n1,Ye n2];exact h)
def cn:Bool->List V
 | true=>[.int 1]
 | false=>[]
theorem XF (c:Addr) (fs:List (Str×V)):(mf c fs).lookup ("counts":Str)=some (.ref c):=rfl
theorem Nv {a b m:Str} {x y:V} (h:(m==a)=false) (h2:(m==b)=true):bn m [(a,x),(b,y)]=some y:=by rw [ι,h,ι,h2]
theorem Nx {a b c m:Str} {x y z:V} (h:(m==a)=false) (h2:(m==b)=false) (h3:(m==c)=true):bn m [(a,x),(b,y),(c,z)]=some z:=by rw [ι,h,ι,h2,ι,h3]
theorem pR {a b c m:Str} {x y z:V} (h:(m==a)=false) (h2:(m==b)=false) (h3:(m==c)=false):bn m [(a,x),(b,y),(c,z)]=none:=by rw [ι,h,ι,h2,ι,h3];rfl
theorem uT {a b m:Str} {x y:V} (h:(m==a)=false) (h2:(m==b)=false):bn m [(a,x),(b,y)]=none:=by rw [ι,h,ι,h2];rfl
theorem DR {a b c m:Str} {x y z:V} (h:(m==a)=false) (h2:(m==b)=true):bn m [(a,x),(b,y),(c,z)]=some y:=by rw [ι,h,ι,h2]
theorem Ygh (c:Addr) (lo:Int):(mf c (fW lo 7)).lookup ("low":Str)=some (.int lo):=DR (by decide +kernel) (by decide +kernel)
theorem IK (c:Addr) (lo:Int):(mf c (fW lo 7)).lookup ("reckoned":Str)=none:=pR (by decide +kernel) (by decide +kernel) (by decide +kernel)
theorem Ygi (c:Addr) (lo:Int):(mf c (fW lo 7)).lookup ("count_at":Str)=none:=pR (by decide +kernel) (by decide +kernel) (by decide +kernel)
theorem Ygj (c:Addr) (lo:Int):(mf c (fW lo 7)).lookup ("value_at":Str)=none:=pR (by decide +kernel) (by decide +kernel) (by decide +kernel)
theorem IV (c P T:Addr):(mf c (fR P T)).lookup ("reckoned":Str)=none:=pR (by decide +kernel) (by decide +kernel) (by decide +kernel)
theorem Ygk (c P T:Addr):(mf c (fR P T)).lookup ("count_at":Str)=none:=pR (by decide +kernel) (by decide +kernel) (by decide +kernel)
theorem Ygl (c P T:Addr):(mf c (fR P T)).lookup ("value_at":Str)=none:=pR (by decide +kernel) (by decide +kernel) (by decide +kernel)
theorem Yem (c P T:Addr):(mf c (fR P T)).lookup ("parts":Str)=some (.ref P):=DR (by decide +kernel) (by decide +kernel)
theorem Yen (c P T:Addr):(mf c (fR P T)).lookup ("table":Str)=some (.ref T):=Nx (by decide +kernel) (by decide +kernel) (by decide +kernel)
theorem Yeo (P L:Addr):(Vf P L).lookup ("parts":Str)=some (.ref P):=rfl
theorem V8 (P L:Addr):(Vf P L).lookup ("ways":Str)=some (.ref L):=Nv (by decide +kernel) (by decide +kernel)
theorem IW (P L:Addr):(Vf P L).lookup ("add_size":Str)=none:=uT (by decide +kernel) (by decide +kernel)
theorem Ygm (P L:Addr):(Vf P L).lookup ("ways_at":Str)=none:=uT (by decide +kernel) (by decide +kernel)
def DW:Sp:=fun vs H Q _=>vs=[.int 0]/\Q (.int 0) H
theorem Z43  (R:g.Raw "least_distance" "least_distance" Bs ["size"]):g.Fn (1) "least_distance" ["size"] (DW):=by
 refine R.fn Z3Y (fun vs H Q E h=>by obtain ⟨rfl,q⟩:=h;rfl) fun f_ cdv A outer s H vs Q E hr h=>?_
 obtain ⟨rfl,q⟩:=h;refine ⟨_,(@Yf _ _ _ (@Yl _ _ _ _ (@Ys _ _ _ _ _ _ _ _ YfV (@Ys _ _ _ _ _ _ _ _ JH Yh (pv 0)) Yh))),?_⟩;walk_at "rd";exact ⟨⟨by omega,by omega,by decide⟩,by decide,q⟩
inductive wF (C:Cs) (vs:List V) (H:Hp) (Q:VK) (E_:XK):Prop
 | mk (p dx c:Addr) (lo:Int) (h0:vs=[.ref p,.int 0]) (h1:H p=some (.ins C.w dx (mf c (fW lo 7)))) (h2:Q (.int 1) H)
theorem Z2i {k:Nat} {Z1 Z2 Z0:Addr} (R:g.bw Z0 "reckoned" "WholeMaker.reckoned" CG ["self","size"]) (DX:g.Fn k "least_distance" ["size"] (DW)) (j4:g.mg "max"=none) (j5:g.mg "min"=none) (Z9:Cls g.K Z0) (Z8:Yo g.K Z0 "counts") (Zi:Yo g.K Z0 "low") (Zb:Yo g.K Z0 "span"):g.Me (k+1) Z0 "reckoned" ["self","size"] (wF (Cs.mk Z0 Z1 Z2)):=by
 refine R.me M9 (fun vs H Q E h=>by obtain ⟨p,dx,c,lo,rfl,hp,q⟩:=h;rfl) fun f_ cdv A outer s H vs Q E hr h=>?_
 obtain ⟨p,dx,c,lo,rfl,hp,q⟩:=h;refine ⟨_,(@Yd _ _ _ _ _ (@Yv _ _ (2) _ _ _ _ M9.nd rfl (.inl rfl) (@YA _ _ _ _ _ _ _ _ _ _ j5 (Ycz rfl) (@Ya _ _ _ _ _ (@Y4 _ _ _ _ _ (pv 0) rfl) (@Ya _ _ _ _ _ (@Ys _ _ _ _ _ _ _ _ Wh (@Ys _ _ _ _ _ _ _ _ JH Yh (pv 1)) Yh) Yc (by rfl)) (by rfl)) (by decide +kernel) (by rfl) (by rfl) (by decide) (by decide) (by rfl) (by rfl)) (by rfl) (by first | exact .inl rfl | exact .inr rfl | assumption)) (@Yf _ _ _ (@Yl _ _ _ _ (@YA _ _ _ _ _ _ _ _ _ _ j4 (Ycy rfl) (@Ya _ _ _ _ _ Yh (@Ya _ _ _ _ _ (@Ys _ _ _ _ _ _ _ _ Xa (@Ys _ _ _ _ _ _ _ _ Wh (pv 2) (@Yr _ _ _ _ _ _ _ _ _ _ _ _ DX hr (@Ya _ _ _ _ _ (pv 1) Yc (by rfl)) (by omega) (by rfl) (by rfl) (by decide) (by rfl) (by rfl))) Yh) Yc (by rfl)) (by rfl)) (by decide +kernel) (by rfl) (by rfl) (by decide) (by decide) (by rfl) (by rfl))))),?_⟩;walk_at "rd";exact ⟨_,_,_,hp,Z9,Zb,_,Nx (by decide +kernel) (by decide +kernel) (by decide +kernel),⟨by omega,by omega,by decide⟩,_,rfl,rfl,_,rfl,q⟩
inductive wG (C:Cs) (vs:List V) (H:Hp) (Q:VK) (E_:XK):Prop
 | mk (p dx c:Addr) (lo:Int) (h0:vs=[.ref p,.int 0,.int 0]) (h1:H p=some (.ins C.w dx (mf c (fW lo 7)))) (h2:Q (.int lo) H)
theorem Z2j {k:Nat} {Z1 Z2 Z0:Addr} (R:g.bw Z0 "value_at" "WholeMaker.value_at" CJ ["self","size","number"]) (DX:g.Fn k "least_distance" ["size"] (DW)) (Z9:Cls g.K Z0) (Z8:Yo g.K Z0 "counts") (Zi:Yo g.K Z0 "low") (Zb:Yo g.K Z0 "span"):g.Me (k+1) Z0 "value_at" ["self","size","number"] (wG (Cs.mk Z0 Z1 Z2)):=by
 refine R.me Z2e (fun vs H Q E h=>by obtain ⟨p,dx,c,lo,rfl,hp,q⟩:=h;rfl) fun f_ cdv A outer s H vs Q E hr h=>?_
 obtain ⟨p,dx,c,lo,rfl,hp,q⟩:=h;refine ⟨_,(@Yf _ _ _ (@Yl _ _ _ _ (@Ys _ _ _ _ _ _ _ _ Xa (@Ys _ _ _ _ _ _ _ _ Xa (@Y4 _ _ _ _ _ (pv 0) rfl) (@Yr _ _ _ _ _ _ _ _ _ _ _ _ DX hr (@Ya _ _ _ _ _ (pv 1) Yc (by rfl)) (by omega) (by rfl) (by rfl) (by decide) (by rfl) (by rfl))) (pv 2)))),?_⟩;walk_at "rd";refine ⟨_,_,_,hp,Z9,Zi,_,Ygh _ _,rfl,_,rfl,_,rfl,?_⟩;rw [show lo+(0:Int)+0=lo by omega];exact q
inductive wH (C:Cs) (vs:List V) (H:Hp) (Q:VK) (E_:XK):Prop
 | mk (p dx c:Addr) (lo:Int) (n:Bool) (h0:vs=[.ref p,.int 0]) (h1:H p=some (.ins C.w dx (mf c (fW lo 7)))) (h2:H c=some (.lst (cn n))) (h3:∀ H',SameBut c H H'->H' c=some (.lst [.int 1])->Q (.int 1) H')
theorem Z2k {k:Nat} {Z1 Z2 Z0:Addr} (R:g.bw Z0 "count_at" "Maker.count_at" Di ["self","size"]) (Z2w:g.Me k Z0 "reckoned" ["self","size"] (wF (Cs.mk Z0 Z1 Z2))) (aH:g.mg "len"=none) (Z9:Cls g.K Z0) (Z8:Yo g.K Z0 "counts") (Zi:Yo g.K Z0 "low") (Zb:Yo g.K Z0 "span"):g.Me (k+1) Z0 "count_at" ["self","size"] (wH (Cs.mk Z0 Z1 Z2)):=by
 refine R.me Z2f (fun vs H Q E h=>by obtain ⟨p,dx,c,lo,n,rfl,hp,hc,q⟩:=h;rfl) fun f_ cdv A outer s H vs Q E hr h=>?_
 obtain ⟨p,dx,c,lo,n,rfl,hp,hc,q⟩:=h;refine ⟨_,(@Yd _ _ _ _ _ (@Wn _ _ _ _ _ _ av (@Yt _ _ _ _ _ _ _ _ W1 (@YA _ _ _ _ _ _ _ _ _ _ aH YF (@Ya _ _ _ _ _ (@Y4 _ _ _ _ _ (pv 0) rfl) Yc (by rfl)) (by decide +kernel) (by rfl) (by rfl) (by decide) (by decide) (by rfl) (by rfl)) (pv 1) (Yq _)) (@Yf _ _ _ (@Xc _ _ _ _ (@X4 _ _ _ _ _ _ _ _ _ _ _ _ bt bE ci Xv (@Y4 _ _ _ _ _ (pv 0) rfl) (@Ya _ _ _ _ _ (@Wy _ _ _ _ _ _ _ _ _ _ _ _ _ _ _ _ Z2w Z9 hr (pv 0) (@Ya _ _ _ _ _ (@YA _ _ _ _ _ _ _ _ _ _ aH YF (@Ya _ _ _ _ _ (@Y4 _ _ _ _ _ (pv 0) rfl) Yc (by rfl)) (by decide +kernel) (by rfl) (by rfl) (by decide) (by decide) (by rfl) (by rfl)) Yc (by rfl)) (by omega) (by rfl) (by rfl) (by rfl) (by rfl)) Yc (by rfl)) (by rfl) (by rfl) (by rfl) (by rfl) (by rfl)) (by rfl)))) (@Yf _ _ _ (@Yl _ _ _ _ (@Yu _ _ _ _ _ _ _ Xo (@Y4 _ _ _ _ _ (pv 0) rfl) (pv 1) (fun _ _=>rfl))))),?_⟩;walk_at "rd";have nA:p≠c:=YE hp hc (by intro z;cases z);refine Wr (α:=Bool) (fun x σ H'=>σ=[some (.ref p),some (.int 0)]/\SameBut c H H'/\H' c=some (.lst (cn x))) (fun x => !x) (fun x=>if x then 0 else 1) n ⟨rfl,fun _ _ _ e=>e,hc⟩ ?_ ?_ ?_
 ·rintro x σ H' ⟨rfl,sb,hc'⟩ R r
  walk_at "rd";refine ⟨_,_,_,sb _ _ nA hp,Z9,Z8,_,XF _ _,_,rfl,_,.inl (aA.of hc'),?_⟩;have:=r H' ⟨rfl,sb,hc'⟩
  cases x<;>exact this
 ·rintro x σ H' ⟨rfl,sb,hc'⟩ hx
  have hx:x=false:=by simpa using hx
  subst hx;have hp':=sb _ _ nA hp;walk_at "rd";refine ⟨_,_,_,hp',Z9,Z8,_,XF _ _,.inl ⟨rfl,_,aA.of hc'⟩,_,_,hp',IK _ _,_,_,_,hp',Z9,Z8,_,XF _ _,_,rfl,_,.inl (aA.of hc'),p,dx,c,lo,rfl,hp',c,rfl,_,hc',few (by decide),fun b o nb e=>by rw [Ye nb];exact sb b o nb e,true,Yb,by decide⟩
 ·rintro x σ H' ⟨rfl,sb,hc'⟩ hx
  have hx:x=true:=by simpa using hx
  subst hx;walk_at "rd";exact ⟨_,_,_,sb _ _ nA hp,Z9,Z8,_,XF _ _,_,rfl,_,aA.of hc',_,Yk (j:=0) rfl,q H' sb hc'⟩
theorem Yce {g:TG} {tb:TS} {D:Ends} {σ:St} {H:Hp} {ta:TA} {n:Nat} (Pv:Nat->St->Hp->Prop) (ha:∀ R:List V->Hp->Prop,R [.int ((n:Int) - 1),.int (-1),.int (-1)] H->ta σ H R) (hn:n<2^62) (h0:Pv 0 σ H)
  (hs:∀ i σ H,i<n->Pv i σ H->g (.int ((n - 1 - i:Nat):Int)) σ H fun σ2 H2=>tb { D with nx:=Pv (i+1),ct:=Pv (i+1),bk:=D.nx } σ2 H2) (hd:∀ σ H,Pv n σ H->D.nx σ H):Vt (Kq ta) g tb D σ H:=by
 refine ha _ ⟨(n:Int) - 1,-1,rfl,⟨by omega,by omega,by omega,by omega⟩,?_⟩;have e:((n:Int) - 1 - (-1)).toNat=n:=by omega
 rw [e];refine ⟨fun i m σ H=>m=n - i/\i<=n/\Pv i σ H,⟨n,by simp,ar _,h0⟩,?_⟩;rintro i m σ H ⟨rfl,hi,p⟩;by_cases hlt:i<n
 ·refine .inr ⟨hlt,Pv (i+1),fun σ' H' p'=>⟨n - (i+1),by omega,rfl,hlt,p'⟩,fun x H' y=>?_⟩
  obtain ⟨e,y⟩:=y;subst e y;have:=hs i σ _ hlt p;have e2:((n - 1 - i:Nat):Int)=(n:Int) - 1 - i:=by omega
  rw [e2] at this
  exact this
 ·have e:i=n:=by omega
  subst e;exact .inl ⟨Ν _,hd σ H p⟩
inductive wI (C:Cs) (vs:List V) (H:Hp) (Q:VK) (E_:XK):Prop
 | mk (T dt Pp L w:Addr) (h0:vs=[.ref T,.int 0]) (h1:H T=some (.ins C.tab dt (Vf Pp L))) (h2:H Pp=some (.lst [])) (h3:H L=some (.lst [.ref w])) (h4:H w=some (.lst [])) (h5:Pp≠w) (h6:∀ H',SameBut w H H'->H' w=some (.lst [.int 1])->Q .non H')
theorem Z2X {Z1 Z2 Z0:Addr} (R:g.bw Z2 "add_size" "RowTable.add_size" CP ["self","size"]) (aH:g.mg "len"=none) (Zw:g.mg "range"=none) (Zm:Cls g.K Z2) (Zo:Yo g.K Z2 "parts") (Zl:Yo g.K Z2 "ways"):g.Me (1) Z2 "add_size" ["self","size"] (wI (Cs.mk Z0 Z1 Z2)):=by
 refine R.me Nb (fun vs H Q E h=>by obtain ⟨T,dt,Pp,L,w,rfl,hT,hP,hL,hw,nP,q⟩:=h;rfl) fun f_ cdv A outer s H vs Q E hr h=>?_
 obtain ⟨T,dt,Pp,L,w,rfl,hT,hP,hL,hw,nP,q⟩:=h;refine ⟨_,(@Yd _ _ _ _ _ (@Xc _ _ _ _ (@X4 _ _ _ _ _ _ _ _ _ _ _ _ bt bE ci Xv (@Yu _ _ _ _ _ _ _ Xo (@Y4 _ _ _ _ _ (pv 0) rfl) (@W0 _ _ _ _ _ _ WE Yh) (fun _ _=>rfl)) (@Ya _ _ _ _ _ (@TQ _ _ _ _ _ _ _ _ (@Yt _ _ _ _ _ _ _ _ YQ (pv 1) Yh (Yq _)) Yh Yh) Yc (by rfl)) (by rfl) (by rfl) (by rfl) (by rfl) (by rfl)) (by rfl)) (@Yf _ _ _ (@XE _ _ _ _ _ _ _ _ av rfl (@YcR _ _ _ _ _ _ _ _ rfl Zw (@Ya _ _ _ _ _ (@Ys _ _ _ _ _ _ _ _ Wh (@YA _ _ _ _ _ _ _ _ _ _ aH YF (@Ya _ _ _ _ _ (@Y4 _ _ _ _ _ (pv 0) rfl) Yc (by rfl)) (by decide +kernel) (by rfl) (by rfl) (by decide) (by decide) (by rfl) (by rfl)) Yh) (@Ya _ _ _ _ _ (@W0 _ _ _ _ _ _ WE Yh) (@Ya _ _ _ _ _ (@W0 _ _ _ _ _ _ WE Yh) Yc (by rfl)) (by rfl)) (by rfl)) (by rfl) (by rfl)) (@YD _ _ (2) _ Nb.nd rfl (.inl rfl) (by first | exact .inl rfl | exact .inr rfl | assumption)) (@Yf _ _ _ YI) (by intro _;rfl)))),?_⟩;have nT:T≠w:=YE hT hw (by intro z;cases z);have nL:L≠w:=YE hL hw (by intro z;cases z);refine Ym fun R rr=>?_
 walk_at "rd";refine ⟨_,_,_,hT,Zm,Zl,_,V8 _ _,_,rfl,_,aA.of hL,_,rfl,.inl ⟨rfl,_,aA.of hw⟩,w,rfl,_,hw,few (by decide),rr _ _ ?_⟩;have s1:SameBut w H (upd H w (.lst ([]++[.int 1]))):=fun b o nb e=>by rw [Ye nb];exact e
 have hw1:upd H w (.lst ([]++[.int 1])) w=some (.lst [.int 1]):=Yb;generalize upd H w (.lst ([]++[.int 1]))=H1 at s1 hw1;refine Yce (n:=0) (fun i σ H'=>H'=H1) (fun R r=>?_) (by decide) rfl (fun i σ H' hi=>by omega) (fun σ H' e=>by subst e;exact q _ s1 hw1);walk_at "rd";refine ⟨_,_,_,s1 _ _ nT hT,Zm,Zo,_,Yeo _ _,_,rfl,_,.inl (aA.of (s1 _ _ nP hP)),?_⟩;exact r
inductive wJ (C:Cs) (vs:List V) (H:Hp) (Q:VK) (E_:XK):Prop
 | mk (T dt Pp L w:Addr) (h0:vs=[.ref T,.int 0,.int 0]) (h1:H T=some (.ins C.tab dt (Vf Pp L))) (h2:H Pp=some (.lst [])) (h3:H L=some (.lst [.ref w])) (h4:H w=some (.lst [])) (h5:Pp≠w) (h6:∀ H',SameBut w H H'->H' w=some (.lst [.int 1])->Q (.int 1) H')
theorem Z3k {k:Nat} {Z1 Z2 Z0:Addr} (R:g.bw Z2 "ways_at" "RowTable.ways_at" CN ["self","place","left"]) (Z3l:g.Me k Z2 "add_size" ["self","size"] (wI (Cs.mk Z0 Z1 Z2))) (aH:g.mg "len"=none) (Zm:Cls g.K Z2) (Zo:Yo g.K Z2 "parts") (Zl:Yo g.K Z2 "ways"):g.Me (k+1) Z2 "ways_at" ["self","place","left"] (wJ (Cs.mk Z0 Z1 Z2)):=by
 refine R.me Z3e (fun vs H Q E h=>by obtain ⟨T,dt,Pp,L,w,rfl,hT,hP,hL,hw,nP,q⟩:=h;rfl) fun f_ cdv A outer s H vs Q E hr h=>?_
 obtain ⟨T,dt,Pp,L,w,rfl,hT,hP,hL,hw,nP,q⟩:=h;refine ⟨_,(@Yd _ _ _ _ _ (@Wn _ _ _ _ _ _ av (@Yt _ _ _ _ _ _ _ _ W1 (@YA _ _ _ _ _ _ _ _ _ _ aH YF (@Ya _ _ _ _ _ (@Yu _ _ _ _ _ _ _ Xo (@Y4 _ _ _ _ _ (pv 0) rfl) (@W0 _ _ _ _ _ _ WE Yh) (fun _ _=>rfl)) Yc (by rfl)) (by decide +kernel) (by rfl) (by rfl) (by decide) (by decide) (by rfl) (by rfl)) (pv 2) (Yq _)) (@Yf _ _ _ (@Xc _ _ _ _ (@Wy _ _ _ _ _ _ _ _ _ _ _ _ _ _ _ _ Z3l Zm hr (pv 0) (@Ya _ _ _ _ _ (@YA _ _ _ _ _ _ _ _ _ _ aH YF (@Ya _ _ _ _ _ (@Yu _ _ _ _ _ _ _ Xo (@Y4 _ _ _ _ _ (pv 0) rfl) (@W0 _ _ _ _ _ _ WE Yh) (fun _ _=>rfl)) Yc (by rfl)) (by decide +kernel) (by rfl) (by rfl) (by decide) (by decide) (by rfl) (by rfl)) Yc (by rfl)) (by omega) (by rfl) (by rfl) (by rfl) (by rfl)) (by rfl)))) (@Yf _ _ _ (@Yl _ _ _ _ (@Yu _ _ _ _ _ _ _ Xo (@Yu _ _ _ _ _ _ _ Xo (@Y4 _ _ _ _ _ (pv 0) rfl) (pv 1) (fun _ _=>rfl)) (pv 2) (fun _ _=>rfl))))),?_⟩;have nT:T≠w:=YE hT hw (by intro z;cases z);have nL:L≠w:=YE hL hw (by intro z;cases z);walk_at "rd";refine Wr (α:=Bool) (fun x σ H'=>σ=[some (.ref T),some (.int 0),some (.int 0)]/\SameBut w H H'/\H' w=some (.lst (cn x))) (fun x => !x) (fun x=>if x then 0 else 1) false ⟨rfl,fun _ _ _ e=>e,hw⟩ ?_ ?_ ?_
 ·rintro x σ H' ⟨rfl,sb,hw'⟩ R r
  walk_at "rd";refine ⟨_,_,_,sb _ _ nT hT,Zm,Zl,_,V8 _ _,_,rfl,_,aA.of (sb _ _ nL hL),_,rfl,_,rfl,_,.inl (aA.of hw'),?_⟩;have:=r H' ⟨rfl,sb,hw'⟩
  cases x<;>exact this
 ·rintro x σ H' ⟨rfl,sb,hw'⟩ hx
  have hx:x=false:=by simpa using hx
  subst hx;have hT':=sb _ _ nT hT;have hL':=sb _ _ nL hL;walk_at "rd";exact ⟨_,_,hT',IW _ _,_,_,_,hT',Zm,Zl,_,V8 _ _,_,rfl,_,aA.of hL',_,rfl,_,rfl,_,.inl (aA.of hw'),T,dt,Pp,L,w,rfl,hT',sb _ _ nP hP,hL',hw',nP,fun H2 wK hw2=>⟨fun b o nb e=>wK _ _ nb (sb b o nb e),true,hw2,by decide⟩⟩
 ·rintro x σ H' ⟨rfl,sb,hw'⟩ hx
  have hx:x=true:=by simpa using hx
  subst hx;walk_at "rd";exact ⟨_,_,_,sb _ _ nT hT,Zm,Zl,_,V8 _ _,_,rfl,_,aA.of (sb _ _ nL hL),_,Yk (j:=0) rfl,_,rfl,_,aA.of hw',_,Yk (j:=0) rfl,q H' sb hw'⟩
structure Rm (C:Cs) (H:Hp) (p dx c Pp T dt L w:Addr):Prop where
 hp:H p=some (.ins C.row dx (mf c (fR Pp T)))
 hP:H Pp=some (.lst [])
 hT:H T=some (.ins C.tab dt (Vf Pp L))
 hL:H L=some (.lst [.ref w])
 nP:Pp≠w
 nc:c≠w
 jJ:Pp≠c
 j6:L≠c
inductive wL (C:Cs) (vs:List V) (H:Hp) (Q:VK) (E_:XK):Prop
 | mk (p dx c Pp T dt L w:Addr) (h0:vs=[.ref p,.int 0]) (h1:Rm C H p dx c Pp T dt L w) (h2:H w=some (.lst [])) (h3:∀ H',SameBut w H H'->H' w=some (.lst [.int 1])->Q (.int 1) H')
theorem Z2Y {k:Nat} {Z1 Z2 Z0:Addr} (R:g.bw Z1 "reckoned" "RowMaker.reckoned" CT ["self","size"]) (Z3M:g.Me k Z2 "ways_at" ["self","place","left"] (wJ (Cs.mk Z0 Z1 Z2))) (Zd:Cls g.K Z1) (Za:Yo g.K Z1 "counts") (Zg:Yo g.K Z1 "parts") (Zh:Yo g.K Z1 "table") (Zm:Cls g.K Z2) (Zo:Yo g.K Z2 "parts") (Zl:Yo g.K Z2 "ways"):g.Me (k+1) Z1 "reckoned" ["self","size"] (wL (Cs.mk Z0 Z1 Z2)):=by
 refine R.me Z2T (fun vs H Q E h=>by obtain ⟨p,dx,c,Pp,T,dt,L,w,rfl,rm,hw,q⟩:=h;rfl) fun f_ cdv A outer s H vs Q E hr h=>?_
 obtain ⟨p,dx,c,Pp,T,dt,L,w,rfl,rm,hw,q⟩:=h;refine ⟨_,(@Yf _ _ _ (@Yl _ _ _ _ (@Wy _ _ _ _ _ _ _ _ _ _ _ _ _ _ _ _ Z3M Zm hr (@Y4 _ _ _ _ _ (pv 0) rfl) (@Ya _ _ _ _ _ Yh (@Ya _ _ _ _ _ (pv 1) Yc (by rfl)) (by rfl)) (by omega) (by rfl) (by rfl) (by rfl) (by rfl)))),?_⟩;walk_at "rd";exact ⟨_,_,_,rm.hp,Zd,Zh,_,Yen _ _ _,T,rfl,_,_,rm.hT,Ygm _ _,T,dt,Pp,L,w,rfl,rm.hT,rm.hP,rm.hL,hw,rm.nP,q⟩
inductive wM (C:Cs) (vs:List V) (H:Hp) (Q:VK) (E_:XK):Prop
 | mk (p dx c Pp T dt L w:Addr) (n:Bool) (h0:vs=[.ref p,.int 0]) (h1:Rm C H p dx c Pp T dt L w) (h2:H c=some (.lst (cn n))) (h3:H w=some (.lst (cn n))) (h4:∀ H',(∀ b o,b≠c->b≠w->H b=some o->H' b=some o)->H' c=some (.lst [.int 1])->H' w=some (.lst [.int 1])->Q (.int 1) H')
theorem Z2Z {k:Nat} {Z1 Z2 Z0:Addr} (R:g.bw Z1 "count_at" "Maker.count_at" Dj ["self","size"]) (Z3m:g.Me k Z1 "reckoned" ["self","size"] (wL (Cs.mk Z0 Z1 Z2))) (aH:g.mg "len"=none) (Zd:Cls g.K Z1) (Za:Yo g.K Z1 "counts") (Zg:Yo g.K Z1 "parts") (Zh:Yo g.K Z1 "table"):g.Me (k+1) Z1 "count_at" ["self","size"] (wM (Cs.mk Z0 Z1 Z2)):=by
 refine R.me Z2U (fun vs H Q E h=>by obtain ⟨p,dx,c,Pp,T,dt,L,w,n,rfl,rm,hc,hw,q⟩:=h;rfl) fun f_ cdv A outer s H vs Q E hr h=>?_
 obtain ⟨p,dx,c,Pp,T,dt,L,w,n,rfl,rm,hc,hw,q⟩:=h;refine ⟨_,(@Yd _ _ _ _ _ (@Wn _ _ _ _ _ _ av (@Yt _ _ _ _ _ _ _ _ W1 (@YA _ _ _ _ _ _ _ _ _ _ aH YF (@Ya _ _ _ _ _ (@Y4 _ _ _ _ _ (pv 0) rfl) Yc (by rfl)) (by decide +kernel) (by rfl) (by rfl) (by decide) (by decide) (by rfl) (by rfl)) (pv 1) (Yq _)) (@Yf _ _ _ (@Xc _ _ _ _ (@X4 _ _ _ _ _ _ _ _ _ _ _ _ bt bE ci Xv (@Y4 _ _ _ _ _ (pv 0) rfl) (@Ya _ _ _ _ _ (@Wy _ _ _ _ _ _ _ _ _ _ _ _ _ _ _ _ Z3m Zd hr (pv 0) (@Ya _ _ _ _ _ (@YA _ _ _ _ _ _ _ _ _ _ aH YF (@Ya _ _ _ _ _ (@Y4 _ _ _ _ _ (pv 0) rfl) Yc (by rfl)) (by decide +kernel) (by rfl) (by rfl) (by decide) (by decide) (by rfl) (by rfl)) Yc (by rfl)) (by omega) (by rfl) (by rfl) (by rfl) (by rfl)) Yc (by rfl)) (by rfl) (by rfl) (by rfl) (by rfl) (by rfl)) (by rfl)))) (@Yf _ _ _ (@Yl _ _ _ _ (@Yu _ _ _ _ _ _ _ Xo (@Y4 _ _ _ _ _ (pv 0) rfl) (pv 1) (fun _ _=>rfl))))),?_⟩;have nA:p≠c:=YE rm.hp hc (by intro z;cases z);have sy:p≠w:=YE rm.hp hw (by intro z;cases z);walk_at "rd";refine Wr (α:=Bool) (fun x σ H'=>σ=[some (.ref p),some (.int 0)]/\(∀ b o,b≠c->b≠w->H b=some o->H' b=some o)/\H' c=some (.lst (cn x))/\H' w=some (.lst (cn x))) (fun x => !x) (fun x=>if x then 0 else 1) n ⟨rfl,fun _ _ _ _ e=>e,hc,hw⟩ ?_ ?_ ?_
 ·rintro x σ H' ⟨rfl,sb,hc',hw'⟩ R r
  walk_at "rd";refine ⟨_,_,_,sb _ _ nA sy rm.hp,Zd,Za,_,XF _ _,_,rfl,_,.inl (aA.of hc'),?_⟩;have:=r H' ⟨rfl,sb,hc',hw'⟩
  cases x<;>exact this
 ·rintro x σ H' ⟨rfl,sb,hc',hw'⟩ hx
  have hx:x=false:=by simpa using hx
  subst hx;have hp':=sb _ _ nA sy rm.hp;have nTc:T≠c:=YE rm.hT hc (by intro z;cases z);have nTw:T≠w:=YE rm.hT hw (by intro z;cases z);have DY:L≠w:=YE rm.hL hw (by cases n<;>(intro z;cases z));have rm':Rm (Cs.mk Z0 Z1 Z2) H' p dx c Pp T dt L w:=⟨hp',sb _ _ rm.jJ rm.nP rm.hP,sb _ _ nTc nTw rm.hT,sb _ _ rm.j6 DY rm.hL,rm.nP,rm.nc,rm.jJ,rm.j6⟩;walk_at "rd";refine ⟨_,_,_,hp',Zd,Za,_,XF _ _,.inl ⟨rfl,_,aA.of hc'⟩,_,_,hp',IV _ _ _,_,_,_,hp',Zd,Za,_,XF _ _,_,rfl,_,.inl (aA.of hc'),p,dx,c,Pp,T,dt,L,w,rfl,rm',hw',fun H2 wK hw2=>?_⟩;have hc2:=wK _ _ rm.nc hc';exact ⟨c,rfl,_,hc2,few (by decide),fun b o n1 n2 e=>by rw [Ye n1];exact wK _ _ n2 (sb b o n1 n2 e),true,Yb,by rw [Ye (ψ rm.nc)];exact hw2,by decide⟩
 ·rintro x σ H' ⟨rfl,sb,hc',hw'⟩ hx
  have hx:x=true:=by simpa using hx
  subst hx;walk_at "rd";exact ⟨_,_,_,sb _ _ nA sy rm.hp,Zd,Za,_,XF _ _,_,rfl,_,aA.of hc',_,Yk (j:=0) rfl,q H' sb hc' hw'⟩
inductive wN (C:Cs) (vs:List V) (H:Hp) (Q:VK) (E_:XK):Prop
 | mk (p dx c Pp T dt L w:Addr) (h0:vs=[.ref p,.int 0,.int 0]) (h1:Rm C H p dx c Pp T dt L w) (h2:∀ b H',Yg H H'->H' b=some (.tup [])->Q (.ref b) H')
theorem Z30 {Z1 Z2 Z0:Addr} (R:g.bw Z1 "value_at" "RowMaker.value_at" CW ["self","size","number"]) (Zq:g.mg "enumerate"=none) (Zf:g.mg "tuple"=none) (Zd:Cls g.K Z1) (Za:Yo g.K Z1 "counts") (Zg:Yo g.K Z1 "parts") (Zh:Yo g.K Z1 "table"):g.Me (1) Z1 "value_at" ["self","size","number"] (wN (Cs.mk Z0 Z1 Z2)):=by
 refine R.me Zx (fun vs H Q E h=>by obtain ⟨p,dx,c,Pp,T,dt,L,w,rfl,rm,q⟩:=h;rfl) fun f_ cdv A outer s H vs Q E hr h=>?_
 obtain ⟨p,dx,c,Pp,T,dt,L,w,rfl,rm,q⟩:=h;refine ⟨_,(@Yd _ _ _ _ _ (@Yv _ _ (3) _ _ _ _ Zx.nd rfl (.inl rfl) (@Y0 _ _ _ _ Yc) (by rfl) (by first | exact .inl rfl | exact .inr rfl | assumption)) (@Yd _ _ _ _ _ (@Yv _ _ (4) _ _ _ _ Zx.nd rfl (.inl rfl) (pv 1) (by rfl) (by first | exact .inl rfl | exact .inr rfl | assumption)) (@Yd _ _ _ _ _ (@Yv _ _ (5) _ _ _ _ Zx.nd rfl (.inl rfl) (pv 2) (by rfl) (by first | exact .inl rfl | exact .inr rfl | assumption)) (@Yd _ _ _ _ _ (@XE _ _ _ _ _ _ _ _ av rfl (@Um _ _ _ _ _ _ _ _ rfl Zq (@Ya _ _ _ _ _ (@Y4 _ _ _ _ _ (pv 0) rfl) Yc (by rfl)) (by rfl)) (@WD _ _ _ _ _ (2) rfl (@Xb _ _ _ _ _ (@YD _ _ (6) _ Zx.nd rfl (.inl rfl) (by first | exact .inl rfl | exact .inr rfl | assumption)) (@Xb _ _ _ _ _ (@YD _ _ (7) _ Zx.nd rfl (.inl rfl) (by first | exact .inl rfl | exact .inr rfl | assumption)) X9 (by rfl)) (by rfl)) (by rfl) (by rfl)) (@Yd _ _ _ _ _ YI (@Yd _ _ _ _ _ YI (@Yd _ _ _ _ _ YI (@Yf _ _ _ YI)))) (by intro _;rfl)) (@Yf _ _ _ (@Yl _ _ _ _ (@Wz _ _ _ _ _ _ _ _ _ _ Zf Xz (@Ya _ _ _ _ _ (pv 3) Yc (by rfl)) (by decide +kernel) (by rfl) (by rfl) (by decide) (by decide) (by rfl) (by rfl)))))))),?_⟩;walk_at "rd";refine ⟨few (by decide),fun X gX=>?_⟩;have sX:=Yg.aj gX (.lst []);refine Vw (K:=g.K) (a:=Pp) (xs:=[]) (fun i σ H'=>σ=[some (V.ref p),some (V.int 0),some (V.int 0),some (V.ref X),some (V.int 0),some (V.int 0),none,none,none]/\H'=upd H X (.lst [])) (fun R r=>?_) ⟨rfl,rfl⟩ (fun i σ H' _ ⟨_,e⟩=>by rw [e];exact aA.of (sX _ _ rm.hP)) (fun i x σ H' T' hx=>by cases hx) ?_
 ·walk_at "rd"
  exact ⟨_,_,_,sX _ _ rm.hp,Zd,Zg,_,Yem _ _ _,r⟩
 ·rintro σ H' ⟨rfl,rfl⟩
  walk_at "rd";exact ⟨_,.inl ⟨aA.of Yb,fun l gl=>q l _ (sX.trans (.aj gl _)) Yb⟩⟩
inductive dO (C:Cs) (H:Hp) (lo:Int):Nat->Addr->List Addr->Prop
 | w (p dx c:Addr) (n:Bool) (h:H p=some (.ins C.w dx (mf c (fW lo 7)))) (hc:H c=some (.lst (cn n))):dO C H lo 0 p [c]
 | r (k:Nat) (p dx c Pp T dt L w:Addr) (n:Bool) (h:Rm C H p dx c Pp T dt L w) (hc:H c=some (.lst (cn n))) (hw:H w=some (.lst (cn n))):dO C H lo (k+1) p [c,w,Pp,L]
def LeV (H:Hp) (lo:Int) (v:V):Nat->Prop
 | 0=>v = .int lo
 | _=>∃ b,v = .ref b/\H b=some (.tup [])
inductive wO (C:Cs) (vs:List V) (H:Hp) (Q:VK) (E_:XK):Prop
 | mk (p:Addr) (lo:Int) (k:Nat) (ms:List Addr) (n:Nat) (h0:vs=[.ref p,.int (n:Nat)]) (h1:n<=1000) (h2:dO C H lo k p ms) (h3:(n=0->Q .non H)) (h4:(0<n->∀ v H',(∀ b o,b∉ms->H b=some o->H' b=some o)->dO C H' lo k p ms->LeV H' lo v k->Q v H'))
theorem Z4D {k:Nat} {Z1 Z2 Z0:Addr} (R:g.Raw "least_below" "least_below" Bu ["maker","below"]) (Z2x:g.Me k Z0 "value_at" ["self","size","number"] (wG (Cs.mk Z0 Z1 Z2))) (Z3n:g.Me k Z1 "value_at" ["self","size","number"] (wN (Cs.mk Z0 Z1 Z2))) (Z2y:g.Me k Z0 "count_at" ["self","size"] (wH (Cs.mk Z0 Z1 Z2))) (Z3o:g.Me k Z1 "count_at" ["self","size"] (wM (Cs.mk Z0 Z1 Z2))) (Zw:g.mg "range"=none) (Zd:Cls g.K Z1) (Za:Yo g.K Z1 "counts") (Zg:Yo g.K Z1 "parts") (Zh:Yo g.K Z1 "table") (Z9:Cls g.K Z0) (Z8:Yo g.K Z0 "counts") (Zi:Yo g.K Z0 "low") (Zb:Yo g.K Z0 "span"):g.Fn (k+1) "least_below" ["maker","below"] (wO (Cs.mk Z0 Z1 Z2)):=by
 refine R.fn M7 (fun vs H Q E h=>by obtain ⟨p,lo,k,ms,n,rfl,hn,hm,q0,q1⟩:=h;rfl) fun f_ cdv A outer s H vs Q E hr h=>?_
 obtain ⟨p,lo,k,ms,n,rfl,hn,hm,q0,q1⟩:=h;refine ⟨_,(@Yd _ _ _ _ _ (@XE _ _ _ _ _ _ _ _ av rfl (@WZ _ _ _ _ _ _ rfl Zw (@Ya _ _ _ _ _ (pv 1) Yc (by rfl)) (by rfl)) (@YD _ _ (2) _ M7.nd rfl (.inl rfl) (by first | exact .inl rfl | exact .inr rfl | assumption)) (@Yf _ _ _ (@Yy _ _ _ _ _ _ _ _ (@Yt _ _ _ _ _ _ _ _ zf (@Mz _ _ _ _ _ _ _ _ _ _ _ _ _ _ _ (VA Z2y Z9 (VA Z3o Zd Mx)) hr (pv 0) (@Ya _ _ _ _ _ (pv 2) Yc (by rfl)) (by omega) (by rfl) (by rfl) (by rfl) (by rfl)) Yh (Yq _)) (@Yf _ _ _ (@Yl _ _ _ _ (@Mz _ _ _ _ _ _ _ _ _ _ _ _ _ _ _ (VA Z2x Z9 (VA Z3n Zd Mx)) hr (pv 0) (@Ya _ _ _ _ _ (pv 2) (@Ya _ _ _ _ _ Yh Yc (by rfl)) (by rfl)) (by omega) (by rfl) (by rfl) (by rfl) (by rfl)))) Yp)) (by intro _;rfl)) (@Yf _ _ _ (@Yl _ _ _ _ Xk))),?_⟩;walk_at "rd";refine YaC (n:=n) (fun i σ H'=>i=0/\σ=[some (.ref p),some (.int n),none]/\H'=H) (fun R r=>?_) (by omega) ⟨rfl,rfl,rfl⟩ ?_ ?_
 ·walk_at "rd";exact r
 ·rintro i σ H' hi ⟨rfl,rfl,rfl⟩
  have q1:=q1 (by omega)
  cases hm with
  | w _ dx c nn hp hc =>
   walk_at "rd";refine ⟨_,_,.head _,dx,_,hp,Ygi _ _,p,dx,c,lo,nn,rfl,hp,hc,fun H2 sb hc2=>?_⟩;have hp2:=sb _ _ (YE hp hc (by intro z;cases z)) hp;exact ⟨_,rfl,Y3 (by decide) ⟨_,_,.head _,dx,_,hp2,Ygj _ _,p,dx,c,lo,rfl,hp2,q1 _ H2 (fun b o nb e=>sb b o (fun z=>nb (by rw [z];exact .head _)) e) (.w p dx c true hp2 hc2) rfl⟩⟩
  | r k _ dx c Pp T dt L w nn rm hc hw =>
   walk_at "rd";refine ⟨_,_,.tail _ (.head _),dx,_,rm.hp,Ygk _ _ _,p,dx,c,Pp,T,dt,L,w,nn,rfl,rm,hc,hw,fun H2 sb hc2 hw2=>?_⟩;have hp2:=sb _ _ (YE rm.hp hc (by intro z;cases z)) (YE rm.hp hw (by intro z;cases z)) rm.hp;have DY:L≠w:=YE rm.hL hw (by cases nn<;>(intro z;cases z));have sG:Rm (Cs.mk Z0 Z1 Z2) H2 p dx c Pp T dt L w:=⟨hp2,sb _ _ rm.jJ rm.nP rm.hP,sb _ _ (YE rm.hT hc (by intro z;cases z)) (YE rm.hT hw (by intro z;cases z)) rm.hT,sb _ _ rm.j6 DY rm.hL,rm.nP,rm.nc,rm.jJ,rm.j6⟩;refine ⟨_,rfl,Y3 (by decide) ⟨_,_,.tail _ (.head _),dx,_,hp2,Ygl _ _ _,p,dx,c,Pp,T,dt,L,w,rfl,sG,fun b H3 s3 hb=>q1 _ H3 (fun x o nx e=>s3 _ _ (sb x o (fun z=>nx (by rw [z];exact .head _)) (fun z=>nx (by rw [z];exact .tail _ (.head _))) e)) ?_ ⟨b,rfl,hb⟩⟩⟩;exact .r k p dx c Pp T dt L w true ⟨s3 _ _ sG.hp,s3 _ _ sG.hP,s3 _ _ sG.hT,s3 _ _ sG.hL,rm.nP,rm.nc,rm.jJ,rm.j6⟩ (s3 _ _ hc2) (s3 _ _ hw2)
 ·rintro σ H' ⟨e,rfl,rfl⟩
  walk_at "rd";exact q0 (by omega)
def W9 (H:Hp) (lo:Int) (a:Addr) (k:Nat):Prop:=if k=0 then H a=some (.tup [.str "whole",.int lo,.int (lo+7)]) else ∃ b,H a=some (.tup [.str "row",.ref b])/\H b=some (.tup [])
def kdP (lo:Int):Bool->ξ
 | false => .tuple [.str "whole",.int lo,.int (lo+7)]
 | true => .tuple [.str "row",.tuple []]
theorem W9.dk {K:Ι} {H:Hp} {lo:Int} {a:Addr} {k:Bool} (h:W9 H lo a k.toNat):DK K H a (kdP lo k):=by
 cases k with
 | false =>
  have h:H a=some (.tup [.str "whole",.int lo,.int (lo+7)]):=h;exact ⟨.tup (aq.of h) (.cons (.str _ (by decide +kernel)) (.cons (.int _) (.cons (.int _) .nil))),.tup (.cons (.str _) (.cons (.int _) (.cons (.int _) .nil))),by simp [kdP,cw,aE]⟩
 | true =>
  obtain ⟨b,h1,h2⟩:∃ b,H a=some (.tup [.str "row",.ref b])/\H b=some (.tup []):=h;exact ⟨.tup (aq.of h1) (.cons (.str _ (by decide +kernel)) (.cons (.tup (aq.of h2) .nil) .nil)),.tup (.cons (.str _) (.cons (.tup .nil) .nil)),by simp [kdP,cw,aE]⟩
theorem Ny {lo:Int}:kdP lo false≠kdP lo true:=by simp [kdP]
structure Li (P:Ρ) (w:Ω) (K:Ι) (C:Cs) (CL:Addr) (H:Hp) (ls dl d:Addr) (b:V) (lo:Int) (f:Bool->Option (Addr×List Addr)) (xs:Dx):Prop where
 hl:H ls=some (.ins CL dl (lf b d))
 hd:cZ P w K H d xs
 len:xs.length=(f false).toList.length+(f true).toList.length
 lk:∀ k:Bool,bK xs (kdP lo k)=(f k).map (·.1)
 lG:∀ k p ms,f k=some (p,ms)->dO C H lo k.toNat p ms
 dj:∀ p ms p' dJ,f false=some (p,ms)->f true=some (p',dJ)->∀ x∈ms,x∉dJ
inductive wQ (K:Ι) (vs:List V) (H:Hp) (Q:VK) (E_:XK):Prop
 | mk (a b:Addr) (h0:vs=[.ref a]) (h1:H a=some (.tup [.str "row",.ref b])) (h2:H b=some (.tup [])) (h3:∀ D H',Yg H H'->H D=none->H' D=some (.lst [])->Q (.ref D) H')
theorem YaR  (R:g.Raw "parts_of" "parts_of" Ar ["shape"]) (aP:g.mg "list"=none):g.Fn (1) "parts_of" ["shape"] (wQ g.K):=by
 refine R.fn MK (fun vs H Q E h=>by obtain ⟨a,b,rfl,ha,hb,q⟩:=h;rfl) fun f_ cdv A outer s H vs Q E hr h=>?_
 obtain ⟨a,b,rfl,ha,hb,q⟩:=h;refine ⟨_,(@Yd _ _ _ _ _ (@Yv _ _ (1) _ _ _ _ MK.nd rfl (.inl rfl) (@Yu _ _ _ _ _ _ _ Yw (pv 0) Yh (fun _ _=>rfl)) (by rfl) (by first | exact .inl rfl | exact .inr rfl | assumption)) (@Yd _ _ _ _ _ (@Yy _ _ _ _ _ _ _ _ (@Yt _ _ _ _ _ _ _ _ YQ (pv 1) Yx (Yq _)) (@Yf _ _ _ (@Yl _ _ _ _ (@Wz _ _ _ _ _ _ _ _ _ _ aP VO (@Ya _ _ _ _ _ (@Yu _ _ _ _ _ _ _ Yw (pv 0) Yh (fun _ _=>rfl)) Yc (by rfl)) (by decide +kernel) (by rfl) (by rfl) (by decide) (by decide) (by rfl) (by rfl)))) Yp) (@Yd _ _ _ _ _ YI (@Yd _ _ _ _ _ YI (@Yf _ _ _ YI))))),?_⟩;refine Ym fun R rr=>?_
 walk_at "rd";refine ⟨_,aq.of ha,_,Yk (j:=0) rfl,rr _ _ (d9 rfl rfl ?_)⟩;walk_at "rd";exact ⟨_,aq.of ha,_,Yk (j:=1) rfl,_,rfl,_,.inr (aq.of hb),fun l hl=>q l _ (.aj hl _) hl Yb⟩
inductive wR (K:Ι) (C:Cs) (vs:List V) (H:Hp) (Q:VK) (E_:XK):Prop
 | mk (s:V) (a:Addr) (lo:Int) (k:Bool) (h0:vs=[s,.ref a]) (h1:W9 H lo a k.toNat) (h2:∀ p ms H',Yg H H'->dO C H' lo k.toNat p ms->(∀ x∈ms,H x=none)->Q (.ref p) H')
theorem Z3p {k:Nat} {Z7 Z1 Z2 Z0:Addr} (R:g.bw Z7 "new_maker" "Lister.new_maker" Cv ["self","shape"]) (qF:g.Fn k "parts_of" ["shape"] (wQ g.K)) {eE:Nat} (Z2z:g.Ma eE "WholeMaker" Z0 ["self","low","high"] (Nj (Cs.mk Z0 Z1 Z2))) (pU:eE+1<=k) {fB:Nat} (Z3q:g.Ma fB "RowMaker" Z1 ["self","parts"] (Nq (Cs.mk Z0 Z1 Z2))) (qU:fB+1<=k):g.Me (k+1) Z7 "new_maker" ["self","shape"] (wR g.K (Cs.mk Z0 Z1 Z2)):=by
 refine R.me Cw (fun vs H Q E h=>by obtain ⟨s,a,lo,k,rfl,hk,q⟩:=h;rfl) fun f_ cdv A outer s H vs Q E hr h=>?_
 obtain ⟨s,a,lo,k,rfl,hk,q⟩:=h;refine ⟨_,(@Yd _ _ _ _ _ (@Yv _ _ (2) _ _ _ _ Cw.nd rfl (.inl rfl) (@Yu _ _ _ _ _ _ _ Yw (pv 1) Yh (fun _ _=>rfl)) (by rfl) (by first | exact .inl rfl | exact .inr rfl | assumption)) (@Yd _ _ _ _ _ (@Yy _ _ _ _ _ _ _ _ (@Yt _ _ _ _ _ _ _ _ YQ (pv 2) Yx (Yq _)) (@Yf _ _ _ (@Yl _ _ _ _ (@UH _ _ _ _ _ _ _ _ _ _ _ _ _ Z2z hr (@Ya _ _ _ _ _ (@Yu _ _ _ _ _ _ _ Yw (pv 1) Yh (fun _ _=>rfl)) (@Ya _ _ _ _ _ (@Yu _ _ _ _ _ _ _ Yw (pv 1) Yh (fun _ _=>rfl)) Yc (by rfl)) (by rfl)) (by omega) (by rfl) (by rfl) (by decide) (by rfl) (by rfl)))) Yp) (@Yd _ _ _ _ _ (@Yy _ _ _ _ _ _ _ _ (@Yt _ _ _ _ _ _ _ _ YQ (pv 2) Yx (Yq _)) (@Yf _ _ _ YI) Yp) (@Yd _ _ _ _ _ (@Kw _ (3) _ _ _ _ _ _ _ _ _ ([none,some 0]) ((["part","self"]:List Str)) _ (YW 0) _ _ Cw.nd rfl (.inl rfl) (.own (.cap (i:=0) rfl rfl (by first | exact .inl rfl | exact .inr rfl) .nil)) rfl (@Xe _ _ _ _ (@Yr _ _ _ _ _ _ _ _ _ _ _ _ qF hr (@Ya _ _ _ _ _ (pv 1) Yc (by rfl)) (by omega) (by rfl) (by rfl) (by decide) (by rfl) (by rfl))) (fun cl C s₀ H₀ fp pn=>(@YD _ _ (0) _ (show bu (["part","self"]:List Str) by decide +kernel) rfl (.inl rfl) (.inr rfl))) (fun cl C s₀ H₀ fp pn=>Xp) (fun cl C s₀ H₀ fp pn=>Yd0) (by intro x hx;simp at hx;first | (subst hx;exact .inl rfl) | (rcases hx with rfl | rfl<;>exact .inl rfl) | (rcases hx with rfl | rfl | rfl<;>exact .inl rfl) | (rcases hx with rfl | rfl | rfl | rfl<;>exact .inl rfl) | (rcases hx with rfl | rfl | rfl | rfl | rfl<;>exact .inl rfl)) (by rfl) (by decide) (by decide +kernel) (by intro _;rfl) (by rfl) (by first | exact .inl rfl | exact .inr rfl | assumption)) (@Yd _ _ _ _ _ (@Yy _ _ _ _ _ _ _ _ (@Yt _ _ _ _ _ _ _ _ YQ (pv 2) Yx (Yq _)) (@Yf _ _ _ (@Yl _ _ _ _ (@UH _ _ _ _ _ _ _ _ _ _ _ _ _ Z3q hr (@Ya _ _ _ _ _ (pv 3) Yc (by rfl)) (by omega) (by rfl) (by rfl) (by decide) (by rfl) (by rfl)))) Yp) (@Yd _ _ _ _ _ YI (@Yd _ _ _ _ _ YI (@Yd _ _ _ _ _ YI (@Yf _ _ _ YI))))))))),?_⟩
 cases k with
 | false =>
  have h:H a=some (.tup [.str "whole",.int lo,.int (lo+7)]):=hk;refine Ym fun R rr=>?_
  walk_at "rd";refine ⟨_,aq.of h,_,Yk (j:=0) rfl,rr _ _ (d9 rfl rfl ?_)⟩;walk_at "rd";refine ⟨_,aq.of h,_,Yk (j:=1) rfl,_,aq.of h,_,Yk (j:=2) rfl,?_⟩;intro p dx gp wU hne;refine ⟨p,dx,lo,7,rfl,Yb,fun c H1 gc sb h1 h2=>⟨rfl,?_⟩⟩;exact q p [c] H1 (W8 gp wU sb) (.w p dx c false h1 h2) (fun x hx=>by cases ε.mp hx;exact XH (XH gc))
 | true =>
  obtain ⟨b,h1,h2⟩:∃ b,H a=some (.tup [.str "row",.ref b])/\H b=some (.tup []):=hk;refine Ym fun R rr=>?_
  walk_at "rd";refine ⟨_,aq.of h1,_,Yk (j:=0) rfl,rr _ _ (aR rfl (by decide +kernel) (aR rfl (by decide +kernel) (Ym fun R rr=>?_)))⟩;refine ⟨a,b,rfl,h1,h2,fun D H1 s1 gD hD=>?_⟩;refine VS (K:=g.K) (tl:=tC (.ref D)) (xs:=[]) [] (fun R r=>r D H1 (.refl H1) (aA.of hD)) rfl (by decide) (fun i x y H' hx=>by cases hx) (fun Pp H2 gP s2 hP=>rr _ _ (d9 rfl rfl ?_));walk_at "rd";intro p dx gp wU hne;have sP:(upd (upd H2 dx (.own p)) p (.ins Z1 dx [])) Pp=some (.lst []):=by rw [Ye (Yj hP gp),Ye (Yj hP wU)];exact hP
  refine ⟨p,dx,Pp,[],rfl,Yb,sP,by decide,fun c T dt L ws H3 gc gT gL wB hnd hwl sb rZ wD DP rY wC=>⟨rfl,?_⟩⟩
  match ws,hwl with
  | [w],_ =>
  have s3:=W8 gp wU sb;have hnd':=bg.mp hnd;have DQ:c≠w:=fun z=>hnd'.1 (by rw [z];exact .head _)
  have gw:=wB w (.head _);have hw3:=wC w (.head _);have Nz:∀ {x:Addr},(upd (upd H2 dx (.own p)) p (.ins Z1 dx [])) x=none->Pp≠x:=fun g=>Yj sP g
  have rm:Rm (Cs.mk Z0 Z1 Z2) H3 p dx c Pp T dt L w:=⟨rZ,s3 _ _ hP,DP,rY,Nz gw,DQ,Nz gc,YE rY wD (by intro z;cases z)⟩;refine q p [c,w,Pp,L] H3 ((s1.trans s2).trans s3) (.r 0 p dx c Pp T dt L w false rm wD hw3) (fun x hx=>?_);have fr:∀ {x:Addr},(upd (upd H2 dx (.own p)) p (.ins Z1 dx [])) x=none->H x=none:=fun g=>(s1.trans s2).free (XH (XH g))
  rcases Ψ.mp hx with rfl | hx
  ·exact fr gc
  rcases Ψ.mp hx with rfl | hx
  ·exact fr gw
  rcases Ψ.mp hx with rfl | hx
  ·exact s1.free gP
  ·cases ε.mp hx;exact fr gL
theorem W9.ahead {H:Hp} {lo:Int} {a:Addr} {k:Nat} (h:W9 H lo a k):∃ (m:Str) (r:List V),H a=some (.tup (.str m::r))/\m≠"use":=by
 unfold W9 at h
 split at h
 ·exact ⟨_,_,h,by decide +kernel⟩
 ·obtain ⟨b,h,_⟩:=h;exact ⟨_,_,h,by decide +kernel⟩
theorem dO.ls {C:Cs} {H:Hp} {lo:Int} {k:Nat} {p:Addr} {ms:List Addr} (h:dO C H lo k p ms):∀ x∈ms,∃ ys,H x=some (.lst ys):=fun x hx=>by
 cases h with
 | w _ dx c n hp hc=>cases ε.mp hx;exact ⟨_,hc⟩
 | r k' _ dx c Pp T dt L' w n rm hc hw =>
  rcases Ψ.mp hx with rfl | hx
  ·exact ⟨_,hc⟩
  rcases Ψ.mp hx with rfl | hx
  ·exact ⟨_,hw⟩
  rcases Ψ.mp hx with rfl | hx
  ·exact ⟨_,rm.hP⟩
  ·cases ε.mp hx;exact ⟨_,rm.hL⟩
theorem dO.al {C:Cs} {H:Hp} {lo:Int} {k:Nat} {p:Addr} {ms:List Addr} (h:dO C H lo k p ms):∀ x∈ms,H x≠none:=fun x hx=>by
 obtain ⟨ys,e⟩:=h.ls x hx;rw [e];simp
theorem NK {α:Type} (o:Option α):o.toList.length<=1:=by cases o<;>simp
theorem dO.stay {C:Cs} {H H':Hp} {lo:Int} {k:Nat} {p:Addr} {ms:List Addr} (h:dO C H lo k p ms) (s:Yg H H'):dO C H' lo k p ms:=by
 cases h with
 | w _ dx c n hp hc=>exact .w p dx c n (s _ _ hp) (s _ _ hc)
 | r k _ dx c Pp T dt L w n rm hc hw=>exact .r k p dx c Pp T dt L w n ⟨s _ _ rm.hp,s _ _ rm.hP,s _ _ rm.hT,s _ _ rm.hL,rm.nP,rm.nc,rm.jJ,rm.j6⟩ (s _ _ hc) (s _ _ hw)
theorem dO.dict {C:Cs} {H:Hp} {P:Ρ} {w0:Ω} {d:Addr} {xs ys:Dx} {lo:Int} {k:Nat} {p:Addr} {ms:List Addr} (h:dO C H lo k p ms) (hd:H d=some (fj P w0 d xs)):dO C (upd H d (fj P w0 d ys)) lo k p ms:=by
 have n:∀ {x:Addr} {o:HO},H x=some o->(∀ φ,o ≠ .ext φ)->upd H d (fj P w0 d ys) x=some o:=fun e ne=>by
  rw [Ye fun z=>by rw [z,hd] at e;exact ne _ (Ε e).symm];exact e
 cases h with
 | w _ dx c nn hp hc=>exact .w p dx c nn (n hp (by intro φ z;cases z)) (n hc (by intro φ z;cases z))
 | r k _ dx c Pp T dt L w nn rm hc hw=>exact .r k p dx c Pp T dt L w nn ⟨n rm.hp (by intro φ z;cases z),n rm.hP (by intro φ z;cases z),n rm.hT (by intro φ z;cases z),n rm.hL (by intro φ z;cases z),rm.nP,rm.nc,rm.jJ,rm.j6⟩ (n hc (by intro φ z;cases z)) (n hw (by intro φ z;cases z))
inductive wV (P:Ρ) (w:Ω) (K:Ι) (C:Cs) (CL:Addr) (vs:List V) (H:Hp) (Q:VK) (E_:XK):Prop
 | mk (ls dl d:Addr) (b:V) (lo:Int) (f:Bool->Option (Addr×List Addr)) (xs:Dx) (a:Addr) (k:Bool) (h0:vs=[.ref ls,.ref a]) (h1:Li P w K C CL H ls dl d b lo f xs) (h2:W9 H lo a k.toNat) (h3:∀ p ms H' f' xs',Li P w K C CL H' ls dl d b lo f' xs'->f' k=some (p,ms)->(∀ j z,f j=some z->f' j=some z)->(∀ j q dJ,f' j=some (q,dJ)->f j=none->∀ x∈dJ,H x=none)->(∀ x o,x≠d->H x=some o->H' x=some o)->Q (.ref p) H')
theorem Z3N {k:Nat} {Z7 Z1 Z2 Z0:Addr} (R:g.bw Z7 "maker_of" "Lister.maker_of" Cu ["self","shape"]) (Z3O:g.Me k Z7 "new_maker" ["self","shape"] (wR g.K (Cs.mk Z0 Z1 Z2))) (Zu:Cls g.K Z7) (Zy:Yo g.K Z7 "book") (Zn:Yo g.K Z7 "makers"):g.Me (k+1) Z7 "maker_of" ["self","shape"] (wV g.P g.w g.K (Cs.mk Z0 Z1 Z2) Z7):=by
 refine R.me Z3H (fun vs H Q E h=>by obtain ⟨ls,dl,d,b,lo,f,xs,a,k,rfl,L,hk,q⟩:=h;rfl) fun f_ cdv A outer s H vs Q E hr h=>?_
 obtain ⟨ls,dl,d,b,lo,f,xs,a,k,rfl,L,hk,q⟩:=h;refine ⟨_,(@Yd _ _ _ _ _ (@Yy _ _ _ _ _ _ _ _ (@Yt _ _ _ _ _ _ _ _ (Yb5 hr) (pv 1) (@Y4 _ _ _ _ _ (pv 0) rfl) rfl) (@Yf _ _ _ (@Yy _ _ _ _ _ _ _ _ (@Yt _ _ _ _ _ _ _ _ YQ (@Yu _ _ _ _ _ _ _ Yw (pv 1) Yh (fun _ _=>rfl)) Yx (Yq _)) (@Yf _ _ _ YI) (@Yf _ _ _ (@Yd7 _ _ _ _ _ _ _ _ _ _ hr (@Y4 _ _ _ _ _ (pv 0) rfl) (pv 1) (@Wy _ _ _ _ _ _ _ _ _ _ _ _ _ _ _ _ Z3O Zu hr (pv 0) (@Ya _ _ _ _ _ (pv 1) Yc (by rfl)) (by omega) (by rfl) (by rfl) (by rfl) (by rfl)) rfl)))) Yp) (@Yf _ _ _ (@Yl _ _ _ _ (@Yd6 _ _ _ _ _ _ _ hr (@Y4 _ _ _ _ _ (pv 0) rfl) (pv 1) (fun _ _=>rfl))))),?_⟩;have dk:=hk.dk (K:=g.K);walk_at "rd";refine ⟨_,_,_,L.hl,Zu,Zn,_,W7 _ _,d,rfl,xs,L.hd,_,dk,?_⟩;have lk:=L.lk k
 cases hf:f k with
 | some z =>
  obtain ⟨p,ms⟩:=z;rw [hf] at lk
  have lk:bK xs (kdP lo k)=some p:=lk;rw [lk];refine YC (by simp) ?_;unfold Ah;walk_at "rd";exact ⟨_,_,_,L.hl,Zu,Zn,_,W7 _ _,d,rfl,xs,L.hd,_,dk,p,lk,q p ms H f xs L hf (fun _ _ e=>e) (fun j q' dJ e1 e2=>by rw [e1] at e2;cases e2) (fun _ _ _ e=>e)⟩
 | none =>
  rw [hf] at lk
  have lk:bK xs (kdP lo k)=none:=lk;rw [lk];refine Y3 rfl ?_;obtain ⟨m,r,hm,hmu⟩:=hk.ahead;refine ⟨_,aq.of hm,_,Yk (j:=0) rfl,rfl,YC (fun z=>hmu (V.str.inj z)) ?_⟩;unfold LR;walk_at "rd";refine ⟨_,_,L.hl,Nt _ _ (by decide +kernel) (by decide +kernel),.ref ls,a,lo,k,rfl,hk,fun p ms H1 s1 mk1 Ea=>?_⟩;have hd1:cZ g.P g.w g.K H1 d xs:=L.hd.keep (Mf s1) (s1 _ _ L.hd.at_);have NP:=s1 _ _ L.hl;have lf1:=L.len;have o1:=NK (f false);have o2:=NK (f true);have ndl:ls≠d:=YE L.hl L.hd.at_ (by intro z;cases z);have Eb:=dk.keep s1;refine ⟨_,_,_,NP,Zu,Zn,_,W7 _ _,d,a,xs,kdP lo k,p,rfl,rfl,rfl,hd1,Eb,lk,by omega,?_⟩;have hd2:cZ g.P g.w g.K (upd H1 d (fj g.P g.w d (xs++[(kdP lo k,a,p)]))) d (xs++[(kdP lo k,a,p)]):=hd1.put Eb lk (by omega);have hl2:upd H1 d (fj g.P g.w d (xs++[(kdP lo k,a,p)])) ls=some (.ins Z7 dl (lf b d)):=by rw [Ye ndl];exact NP
  have dk2:DK g.K (upd H1 d (fj g.P g.w d (xs++[(kdP lo k,a,p)]))) a (kdP lo k):=Eb.qm fun z ys h=>h.imp (fun e=>by rw [Ye (YE e hd1.at_ (by intro z;cases z))];exact e) fun ⟨o,e⟩=>⟨o,by rw [Ye (YE e hd1.at_ (by intro z;cases z))];exact e⟩
  have hk2:bK (xs++[(kdP lo k,a,p)]) (kdP lo k)=some p:=by rw [UO _ _ _ _ _ lk,if_pos rfl]
  unfold Ah;walk_at "rd";refine ⟨_,_,_,hl2,Zu,Zn,_,W7 _ _,d,rfl,_,hd2,_,dk2,p,hk2,?_⟩;refine q p ms _ (fun j=>if j=k then some (p,ms) else f j) (xs++[(kdP lo k,a,p)]) ⟨hl2,hd2,?_,fun j=>?_,fun j p' dJ e=>?_,?_⟩ (if_pos rfl) (fun j z e=>?_) (fun j q' dJ e1 e2 x hx=>?_) (fun x o hx e=>by rw [Ye hx];exact s1 _ _ e)
  ·rw [Κ,lf1]
   cases k with
   | false=>rw [if_pos rfl,if_neg (by decide),hf];simp;omega
   | true=>rw [if_neg (by decide),if_pos rfl,hf];simp
  ·rw [UO _ _ _ _ _ lk]
   by_cases c:j=k
   ·subst c;rw [if_pos rfl,if_pos rfl];rfl
   ·rw [if_neg c,if_neg (fun z=>c ?_)]
    ·exact L.lk j
    ·cases j<;>cases k<;>first | rfl | exact absurd z Ny | exact absurd z.symm Ny
  ·by_cases c:j=k
   ·subst c
    rw [if_pos rfl] at e
    cases Ε e
    exact mk1.dict hd1.at_
   ·rw [if_neg c] at e
    exact ((L.lG j p' dJ e).stay s1).dict hd1.at_
  ·intro p1 ms1 p2 ms2 e1 e2 x h1 h2
   have al:∀ j p' dJ,f j=some (p',dJ)->∀ x∈dJ,H x≠none:=fun j p' dJ e x hx=>(L.lG j p' dJ e).al x hx
   cases k with
   | false =>
    rw [if_pos rfl] at e1
    rw [if_neg (by decide)] at e2
    cases Ε e1
    exact al true _ _ e2 x h2 (Ea x h1)
   | true =>
    rw [if_neg (by decide)] at e1
    rw [if_pos rfl] at e2
    cases Ε e2
    exact al false _ _ e1 x h1 (Ea x h2)
  ·by_cases c:j=k
   ·subst c;rw [hf] at e;cases e
   ·rw [if_neg c];exact e
  ·by_cases c:j=k
   ·subst c
    rw [if_pos rfl] at e1
    cases Ε e1
    exact Ea x hx
   ·rw [if_neg c,e2] at e1;cases e1
def hal:Nat->Nat->List Nat
 | 0,_=>[]
 | f+1,o=>if o=0 then [] else (o / 2)::hal f (o / 2)
def lH (o:Nat):List Nat:=(hal 20 o).reverse
def sH:Nat->Dd
 | 0 => .ask
 | _ => .put 0
def dst (x:Dd):List Dd:=(if dY x=0 then [] else (a9 (dk x)).map sH)++(match x with | .put o=>(lH o).map Dd.put | _=>[])
def wo {α:Type} (xs:List α):List (List α):=(a9 xs.length).map fun i=>xs.take i++xs.drop (i+1)
def wi {α:Type} (xs:List α) (L:List (List α)):List (List α):=((a9 L.length).map fun i=>(L.getD i []).map fun s=>xs.take i++[s]++xs.drop (i+1)).flatten
def stL (xs:List Dd):List (List Dd):=wo xs++wi xs (xs.map dst)
def YN (H:Hp) (lo:Int) (us:List V) (xs:List Dd):Prop:=us.length=xs.length/\∀ (i:Nat) u x,us[i]?=some u->xs[i]?=some x->Y6 H lo u x
theorem YN.tp {H H':Hp} (k:Tp H H') {lo:Int} {us:List V} {xs:List Dd} (h:YN H lo us xs):YN H' lo us xs:=⟨h.1,fun i u x e1 e2=>(h.2 i u x e1 e2).tp k⟩
inductive wW (K:Ι) (vs:List V) (H:Hp) (Q:VK) (E_:XK):Prop
 | mk (lo:Int) (o:Nat) (h0:vs=[.int lo,.int (lo+o)]) (h1:o<=7) (h2:∀ D H',Yg H H'->H D=none->H' D=some (.lst ((lH o).map fun (i:Nat)=>V.int (lo+(i:Nat))))->Q (.ref D) H')
theorem Yep {f o:Nat} (h:0<o):hal (f+1) o=(o / 2)::hal f (o / 2):=by rw [hal,if_neg (by omega)]
theorem Yeq (f:Nat):hal f 0=[]:=by cases f<;>rfl
theorem Z4E  (R:g.Raw "whole_steps" "whole_steps" Bv ["low","value"]):g.Fn (1) "whole_steps" ["low","value"] (wW g.K):=by
 refine R.fn vP (fun vs H Q E h=>by obtain ⟨lo,o,rfl,ho,q⟩:=h;rfl) fun f_ cdv A outer s H vs Q E hr h=>?_
 obtain ⟨lo,o,rfl,ho,q⟩:=h;refine ⟨_,(@Yd _ _ _ _ _ (@Yv _ _ (2) _ _ _ _ vP.nd rfl (.inl rfl) (@Y0 _ _ _ _ Yc) (by rfl) (by first | exact .inl rfl | exact .inr rfl | assumption)) (@Yd _ _ _ _ _ (@Yv _ _ (3) _ _ _ _ vP.nd rfl (.inl rfl) (@Ys _ _ _ _ _ _ _ _ Wh (pv 1) (pv 0)) (by rfl) (by first | exact .inl rfl | exact .inr rfl | assumption)) (@Yd _ _ _ _ _ (@Wn _ _ _ _ _ _ av (@Yt _ _ _ _ _ _ _ _ zf (pv 3) Yh (Yq _)) (@Yd _ _ _ _ _ (@Yv _ _ (3) _ _ _ _ vP.nd rfl (.inl rfl) (@Ys _ _ _ _ _ _ _ _ Wp (pv 3) Yh) (by rfl) (by first | exact .inl rfl | exact .inr rfl | assumption)) (@Yf _ _ _ (@Xc _ _ _ _ (@X4 _ _ _ _ _ _ _ _ _ _ _ _ bt bE ci Xv (pv 2) (@Ya _ _ _ _ _ (@Ys _ _ _ _ _ _ _ _ Xa (pv 0) (pv 3)) Yc (by rfl)) (by rfl) (by rfl) (by rfl) (by rfl) (by rfl)) (by rfl))))) (@Yf _ _ _ (@Yl _ _ _ _ (@Yf2 _ _ _ _ _ _ _ (pv 2) (@W0 _ _ _ _ _ _ WE Yh))))))),?_⟩;refine Ym fun R rr=>?_
 walk_at "rd";refine ⟨few (by decide),fun X gX=>rr _ _ (Ym fun R rr=>?_)⟩;have sX:=Yg.aj gX (.lst []);walk_at "rd";rw [show lo+(o:Int) - lo=o by omega];refine rr _ _ (Ym fun R rr=>?_);refine Wr (α:=Nat×Nat×List Nat) (fun a σ H'=>σ=[some (.int lo),some (.int (lo+o)),some (.ref X),some (.int (a.1:Nat))]/\a.1<2^a.2.1/\a.2.1<=20/\a.2.2.length+a.2.1=20/\hal 20 o=a.2.2++hal a.2.1 a.1/\SameBut X H H'/\H' X=some (.lst (a.2.2.map fun (i:Nat)=>V.int (lo+(i:Nat))))) (fun a=>decide (0<a.1)) (fun a=>a.1) (o,20,[]) ⟨rfl,(by omega:o<2^20),Ν 20,rfl,rfl,fun b u nb e=>by rw [Ye nb];exact e,Yb⟩ ?_ ?_ ?_
 ·rintro ⟨x,f,l⟩ σ H' ⟨rfl,h1,h2,h3,h4,sb,hX⟩ R r
  walk_at "rd";have:=r H' ⟨rfl,h1,h2,h3,h4,sb,hX⟩;rw [show decide (0<x)=decide ((0:Int)<(x:Int)) from decide_eq_decide.mpr (by omega)] at this
  exact this
 ·rintro ⟨x,f,l⟩ σ H' ⟨rfl,h1,h2,h3,h4,sb,hX⟩ hx
  have hx0:0<x:=of_decide_eq_true hx;clear hx;have hf:f≠0:=fun z=>by subst z;simp at h1;omega
  obtain ⟨f,rfl⟩:∃ f',f=f'+1:=⟨f - 1,by omega⟩;dsimp only at h1 h2 h3 h4 hX ⊢;rw [Yep hx0] at h4
  rw [Nat.pow_succ] at h1
  refine Ym fun R rr=>?_
  walk_at "rd";refine ⟨Wa (by decide) (by decide),rr _ _ ?_⟩;walk_at "rd";rw [show ((x:Nat):Int) / 2=((x / 2:Nat):Int) by omega];refine ⟨.inl ⟨rfl,_,aA.of hX⟩,_,hX,few (by simp;omega),?_⟩;refine ⟨(x / 2,f,l++[x / 2]),rfl,(by omega:x / 2<2^f),(by omega:f<=20),?_,?_,fun b u nb e=>by rw [Ye nb];exact sb b u nb e,?_,(by omega:x / 2<x)⟩
  ·show (l++[x / 2]).length+f=20
   rw [Κ,ω];omega
  ·show hal 20 o=(l++[x / 2])++hal f (x / 2)
   rw [h4,List.append_assoc];rfl
  ·rw [Yb,am];rfl
 ·rintro ⟨x,f,l⟩ σ H' ⟨rfl,h1,h2,h3,h4,sb,hX⟩ hx
  have hx:x=0:=by have:=of_decide_eq_false hx;omega
  subst hx;refine rr _ _ ?_;walk_at "rd";rw [Yeq,bi] at h4
  refine ⟨_,aA.of hX,fun Y gY=>q Y _ (fun b u e=>?_) ?_ ?_⟩
  ·rw [Ye (Yj (sb _ _ (Yj e gX) e) gY)]
   exact sb _ _ (Yj e gX) e
  ·cases e:H Y with
   | none=>rfl
   | some u=>rw [sb _ _ (Yj e gX) e] at gY;cases gY
  ·rw [Yb,lH,h4,List.map_reverse]
structure Nl (H H':Hp) (as:List Addr) (zs:List (List V)):Prop where
 len:as.length=zs.length
 nw:∀ a∈as,H a=none
 nd:as.Nodup
 at_:∀ (i:Nat) a z,as[i]?=some a->zs[i]?=some z->H' a=some (.lst z)
theorem Nl.snoc {H H' aJ:Hp} {as:List Addr} {zs:List (List V)} {a:Addr} {z:List V} (h:Nl H H' as zs) (ha:H a=none) (ha':H' a=none) (hz:aJ a=some (.lst z)) (k:∀ b∈as,∀ o,H' b=some o->aJ b=some o):Nl H aJ (as++[a]) (zs++[z]):=by
 have al:∀ b∈as,H' b≠none:=fun b hb=>by
  obtain ⟨i,hi⟩:=bc hb;have hl:=(Η.mp hi).1;have e:zs[i]?=some (zs[i]'(by have:=h.len;omega)):=Λ _;rw [h.at_ i b _ hi e];simp
 refine ⟨by rw [Κ,Κ,h.len];rfl,fun b hb=>?_,?_,fun i b y h1 h2=>?_⟩
 ·rcases τ.mp hb with hb | hb
  ·exact h.nw b hb
  ·cases ε.mp hb;exact ha
 ·rw [iO]
  refine ⟨h.nd,by simp,fun x hx y hy=>?_⟩
  cases ε.mp hy
  intro e;subst e;exact al x hx ha'
 ·by_cases c:i<as.length
  ·rw [υ c] at h1
   rw [υ (by have:=h.len;omega)] at h2
   exact k b (Χ h1) _ (h.at_ i b y h1 h2)
  ·have hi:i=as.length:=by
    have:=(Η.mp h1).1;rw [Κ,ω] at this
    omega
   subst hi;rw [ac (Ν _),eJ] at h1
   rw [h.len,ac (Ν _),eJ] at h2
   cases Ε h1
   cases Ε h2
   exact hz
inductive wX (K:Ι) (vs:List V) (H:Hp) (Q:VK) (E_:XK):Prop
 | mk (T:Addr) (us:List V) (h0:vs=[.ref T]) (h1:H T=some (.lst us)) (h2:us.length<=100) (h3:∀ D as H',Yg H H'->H D=none->H' D=some (.lst (as.map V.ref))->Nl H H' as (wo us)->Q (.ref D) H')
theorem Z4v  (R:g.Raw "without_each" "without_each" Bw ["things"]) (aH:g.mg "len"=none) (Zw:g.mg "range"=none):g.Fn (1) "without_each" ["things"] (wX g.K):=by
 refine R.fn Z4p (fun vs H Q E h=>by obtain ⟨T,us,rfl,hT,hl,q⟩:=h;rfl) fun f_ cdv A outer s H vs Q E hr h=>?_
 obtain ⟨T,us,rfl,hT,hl,q⟩:=h;refine ⟨_,(@Yf _ _ _ (@Yl _ _ _ _ (@XO _ _ _ _ _ _ _ ([none,some 0]) ((["place","things"]:List Str)) _ (YW 0) _ _ (.own (.cap (i:=0) rfl rfl (by first | exact .inl rfl | exact .inr rfl) .nil)) rfl (@WZ _ _ _ _ _ _ rfl Zw (@Ya _ _ _ _ _ (@YA _ _ _ _ _ _ _ _ _ _ aH YF (@Ya _ _ _ _ _ (pv 0) Yc (by rfl)) (by decide +kernel) (by rfl) (by rfl) (by decide) (by decide) (by rfl) (by rfl)) Yc (by rfl)) (by rfl)) (fun cl C s₀ H₀ fp pn=>(@YD _ _ (0) _ (show bu (["place","things"]:List Str) by decide +kernel) rfl (.inl rfl) (.inr rfl))) (fun cl C s₀ H₀ fp pn=>Xp) (fun cl C s₀ H₀ fp pn=>(@Ys _ _ _ _ _ _ _ _ Xu (@Xr _ _ _ _ _ _ _ _ _ _ (Ws (K:=g.K)) (pv 1) Xx (@Xy _ _ _ (pv 0))) (@Xr _ _ _ _ _ _ _ _ _ _ (Ws (K:=g.K)) (pv 1) (@Xy _ _ _ (@Ys _ _ _ _ _ _ _ _ Xa (pv 0) Yh)) Xx))) (by intro x hx;simp at hx;first | (subst hx;exact .inl rfl) | (rcases hx with rfl | rfl<;>exact .inl rfl) | (rcases hx with rfl | rfl | rfl<;>exact .inl rfl) | (rcases hx with rfl | rfl | rfl | rfl<;>exact .inl rfl) | (rcases hx with rfl | rfl | rfl | rfl | rfl<;>exact .inl rfl)) (by rfl) (by decide) (by decide +kernel) (by intro _;rfl)))),?_⟩;walk_at "rd";refine Vv (n:=us.length) (fun D i zs H'=>∃ as:List Addr,zs=as.map V.ref/\as.length=i/\H' D=some (.lst zs)/\Yg H H'/\D∉as/\Nl H H' as ((a9 i).map fun i=>us.take i++us.drop (i+1))) (fun R r=>?_) (by omega) ?_ ?_ ?_ ?_
 ·walk_at "rd"
  exact ⟨_,.inl (aA.of hT),r⟩
 ·intro D hD
  exact ⟨[],rfl,rfl,Yb,.aj hD _,by simp,⟨rfl,(fun a h=>by cases h),List.nodup_nil,fun i a z h=>by cases h⟩⟩
 ·rintro D i zs H' ⟨as,rfl,h1,h2,_⟩
  exact ⟨by rw [Θ,h1],h2⟩
 ·rintro D i zs H' hD hi ⟨as,rfl,hal,hd,sm,nF,nl⟩ R r
  walk_at "rd";refine ⟨_,aA.of (sm _ _ hT),fun X gX=>?_⟩;rw [Wq];have sX:=Yg.aj gX (.lst (us.take i));refine ⟨_,aA.of (sX _ _ (sm _ _ hT)),fun Y gY=>?_⟩;rw [show (i:Int)+1=((i+1:Nat):Int) by omega,Vj];have sY:=Yg.aj gY (.lst (us.drop (i+1)));refine ⟨_,sY _ _ Yb,_,Yb,few (by simp;omega),fun Z gZ=>?_⟩;have sZ:=Yg.aj gZ (.lst (us.take i++us.drop (i+1)));have s3:=(sX.trans sY).trans sZ;have Ec:H' Z=none:=(sX.trans sY).free gZ;have sJ:Z≠D:=ψ (Yj hd Ec);refine r _ _ (s3 _ _ hd) ⟨as++[Z],by rw [am];rfl,by rw [Κ,hal];rfl,Yb,.cO hD (sm.trans s3) _,fun h=>?_,?_⟩
  ·rcases τ.mp h with h | h
   ·exact nF h
   ·exact sJ (ε.mp h).symm
  ·rw [ie,am]
   refine nl.snoc (sm.free Ec) Ec (by rw [Ye sJ,Yb]) (fun b hb o e=>?_);rw [Ye fun z=>nF (by rw [<- z];exact hb)];exact s3 _ _ e
 ·rintro D zs H' hD ⟨as,rfl,hal,hd,sm,nF,nl⟩
  exact q D as H' sm hD hd nl
section
 variable {src:List (Option Nat)} {te:TE} {σ:St} {H:Hp} {Q:VK}
theorem Yer {K:Ι} {tl:TE} {b:Addr} {xs:List V} (zs:List (List V)) (ha:∀ R:V->Hp->Prop,R (.ref b) H->tl σ H R) (hS:H b=some (.lst xs)) (hz:zs.length=xs.length) (hlen:xs.length<=100000)
  (step:∀ (i:Nat) x z H',xs[i]?=some x->zs[i]?=some z->Yg H H'->∀ R:VK,(∀ a aJ,Yg H' aJ->H' a=none->aJ a=some (.lst z)->R (.ref a) aJ)->te (some x::YJ src σ) H' R)
  (fin:∀ D as H',Yg H H'->H D=none->H' D=some (.lst (as.map V.ref))->Nl H H' as zs->Q (.ref D) H'):je (none::src) (Wf K tl) (YW 0) Wj te σ H Q:=by
 refine Yc9 (b:=b) (fun D i ys H'=>∃ as:List Addr,ys=as.map V.ref/\as.length=i/\H' D=some (.lst ys)/\Yg H H'/\D∉as/\Nl H H' as (zs.take i)) ha (aA.of hS) hlen ?_ ?_ ?_ ?_
 ·intro D hD
  exact ⟨[],rfl,rfl,Yb,.aj hD _,by simp,⟨by simp,(fun a h=>by cases h),List.nodup_nil,fun i a z h=>by cases h⟩⟩
 ·rintro D i ys H' hD ⟨as,rfl,h1,h2,sm,_⟩
  exact ⟨by rw [Θ,h1],h2,aA.of (sm _ _ hS)⟩
 ·rintro D i x ys H' hD hx ⟨as,rfl,hal,hd,sm,nF,nl⟩ R r
  have hi:=(Η.mp hx).1;have NQ:zs[i]?=some (zs[i]'(by omega)):=Λ _;refine step i x _ H' hx NQ sm R fun Z aJ s2 gZ hZ=>?_
  have sJ:Z≠D:=ψ (Yj hd gZ);refine r _ _ (s2 _ _ hd) ⟨as++[Z],by rw [am];rfl,by rw [Κ,hal];rfl,Yb,.cO hD (sm.trans s2) _,fun h=>?_,?_⟩
  ·rcases τ.mp h with h | h
   ·exact nF h
   ·exact sJ (ε.mp h).symm
  ·rw [Xl NQ]
   refine nl.snoc (sm.free gZ) gZ (by rw [Ye sJ];exact hZ) (fun b hb o e=>?_);rw [Ye fun z=>nF (by rw [<- z];exact hb)];exact s2 _ _ e
 ·rintro D ys H' hD ⟨as,rfl,hal,hd,sm,nF,nl⟩
  rw [<- hz,dS] at nl
  exact fin D as H' sm hD hd nl
end
def NT (H:Hp) (is_:List Addr) (ss:List (List V)):Prop:=is_.length=ss.length/\∀ (i:Nat) a s,is_[i]?=some a->ss[i]?=some s->H a=some (.lst s)
inductive sO (K:Ι) (vs:List V) (H:Hp) (Q:VK) (E_:XK):Prop
 | mk (T I:Addr) (us:List V) (is_:List Addr) (ss:List (List V)) (h0:vs=[.ref T,.ref I]) (h1:H T=some (.lst us)) (h2:us.length<=100) (h3:H I=some (.lst (is_.map V.ref))) (h4:is_.length<=100) (h5:NT H is_ ss) (h6:(∀ s∈ss,s.length<=100)) (h7:∀ D as H',Yg H H'->H D=none->H' D=some (.lst (as.map V.ref))->D∉as->Nl H H' as (wi us ss)->Q (.ref D) H')
theorem UQ {α:Type} {us:List α} {ss:List (List α)} (h:∀ s∈ss,s.length<=100):∀ i≤ss.length,(((a9 i).map fun i=>(ss.getD i []).map fun s=>us.take i++[s]++us.drop (i+1)).flatten).length<=100*i
 | 0,_=>by simp
 | i+1,hi=>by
  have ih:=UQ (us:=us) h i (by omega);rw [ie,am,List.flatten_append,Κ];have:(ss.getD i []).length<=100:=by
   rw [eu,Λ (by omega)];exact h _ (List.getElem_mem _)
  simp only [aS,ip,List.flatten_cons,List.flatten_nil,bi,Θ];omega
theorem Nl.app {H H1 H':Hp} {as bs:List Addr} {zs ys:List (List V)} (h:Nl H H1 as zs) (h2:Nl H1 H' bs ys) (al:∀ a∈as,H1 a≠none) (f:∀ x,H1 x=none->H x=none) (k:∀ a∈as,∀ o,H1 a=some o->H' a=some o):Nl H H' (as++bs) (zs++ys):=by
 refine ⟨by rw [Κ,Κ,h.len,h2.len],fun a ha=>?_,?_,fun i a z e1 e2=>?_⟩
 ·rcases τ.mp ha with ha | ha
  ·exact h.nw a ha
  ·exact f a (h2.nw a ha)
 ·rw [iO]
  refine ⟨h.nd,h2.nd,fun x hx y hy e=>?_⟩;subst e;exact al x hx (h2.nw x hy)
 ·by_cases c:i<as.length
  ·rw [υ c] at e1
   rw [υ (by have:=h.len;omega)] at e2
   exact k a (Χ e1) _ (h.at_ i a z e1 e2)
  ·rw [ac (by omega)] at e1
   rw [ac (by have:=h.len;omega),<- h.len] at e2
   exact h2.at_ _ a z e1 e2
theorem Z44  (R:g.Raw "with_each_step" "with_each_step" Bx ["things","inner"]) (Zq:g.mg "enumerate"=none):g.Fn (1) "with_each_step" ["things","inner"] (sO g.K):=by
 refine R.fn vQ (fun vs H Q E h=>by obtain ⟨T,I,us,is_,ss,rfl,hT,Ed,hI,hil,hss,hsl,q⟩:=h;rfl) fun f_ cdv A outer s H vs Q E hr h=>?_
 obtain ⟨T,I,us,is_,ss,rfl,hT,Ed,hI,hil,hss,hsl,q⟩:=h;refine ⟨_,(@Yd _ _ _ _ _ (@Yv _ _ (2) _ _ _ _ vQ.nd rfl (.inl rfl) (@Y0 _ _ _ _ Yc) (by rfl) (by first | exact .inl rfl | exact .inr rfl | assumption)) (@Yd _ _ _ _ _ (@XE _ _ _ _ _ _ _ _ av rfl (@Um _ _ _ _ _ _ _ _ rfl Zq (@Ya _ _ _ _ _ (pv 1) Yc (by rfl)) (by rfl)) (@WD _ _ _ _ _ (2) rfl (@Xb _ _ _ _ _ (@YD _ _ (3) _ vQ.nd rfl (.inr rfl) (by first | exact .inl rfl | exact .inr rfl | assumption)) (@Xb _ _ _ _ _ (@YD _ _ (4) _ vQ.nd rfl (.inl rfl) (by first | exact .inl rfl | exact .inr rfl | assumption)) X9 (by rfl)) (by rfl)) (by rfl) (by rfl)) (@Yf _ _ _ (@Xc _ _ _ _ (@X4 _ _ _ _ _ _ _ _ _ _ _ _ PySem.F.plainAttrs_list PySem.F.slot_list_extend PySem.F.type_list_extend VP (pv 2) (@Ya _ _ _ _ _ (@XO _ _ _ _ _ _ _ ([none,some 0,some 3]) ((["step","things","place"]:List Str)) _ (YW 0) _ _ (.own (.cap (i:=0) rfl rfl (by first | exact .inl rfl | exact .inr rfl) (.cap (i:=3) rfl rfl (by first | exact .inl rfl | exact .inr rfl) .nil))) rfl (@Xe _ _ _ _ (pv 4)) (fun cl C s₀ H₀ fp pn=>(@YD _ _ (0) _ (show bu (["step","things","place"]:List Str) by decide +kernel) rfl (.inl rfl) (.inr rfl))) (fun cl C s₀ H₀ fp pn=>Xp) (fun cl C s₀ H₀ fp pn=>(@Ys _ _ _ _ _ _ _ _ Xu (@Ys _ _ _ _ _ _ _ _ Xu (@Xr _ _ _ _ _ _ _ _ _ _ (Ws (K:=g.K)) (pv 1) Xx (@Xy _ _ _ (pv 2))) (@Y0 _ _ _ _ (@Ya _ _ _ _ _ (pv 0) Yc (by rfl)))) (@Xr _ _ _ _ _ _ _ _ _ _ (Ws (K:=g.K)) (pv 1) (@Xy _ _ _ (@Ys _ _ _ _ _ _ _ _ Xa (pv 2) Yh)) Xx))) (by intro x hx;simp at hx;first | (subst hx;exact .inl rfl) | (rcases hx with rfl | rfl<;>exact .inl rfl) | (rcases hx with rfl | rfl | rfl<;>exact .inl rfl) | (rcases hx with rfl | rfl | rfl | rfl<;>exact .inl rfl) | (rcases hx with rfl | rfl | rfl | rfl | rfl<;>exact .inl rfl)) (by rfl) (by decide) (by decide +kernel) (by intro _;rfl)) Yc (by rfl)) (by rfl) (by rfl) (by rfl) (by rfl) (by rfl)) (by rfl))) (by intro _;rfl)) (@Yf _ _ _ (@Yl _ _ _ _ (pv 2))))),?_⟩;refine Ym fun R rr=>?_
 walk_at "rd";refine ⟨few (by decide),fun C gC=>rr _ _ (Ym fun R rr=>?_)⟩;have sC:=Yg.aj gC (.lst []);refine Vw (K:=g.K) (a:=I) (xs:=is_.map V.ref) (fun i σ H'=>∃ (o3 o4:Option V) (as:List Addr),σ=[some (.ref T),some (.ref I),some (.ref C),o3,o4]/\SameBut C H H'/\H' C=some (.lst (as.map V.ref))/\C∉as/\Nl H H' as (((a9 i).map fun i=>(ss.getD i []).map fun s=>us.take i++[s]++us.drop (i+1)).flatten)) (fun R r=>by walk_at "rd";exact r) ⟨none,none,[],rfl,fun b o nb e=>sC _ _ e,Yb,by simp,⟨rfl,(fun a h=>by cases h),List.nodup_nil,fun i a z h=>by cases h⟩⟩ (fun i σ H' _ ⟨_,_,_,_,sb,_,_,_⟩=>aA.of (sb _ _ (Yj hI gC) hI)) ?_ ?_
 ·rintro i x σ H' Z hx ⟨o3,o4,as,rfl,sb,hC,wY,nl⟩ gZ
  rw [Υ] at hx
  obtain ⟨ii,NZ,rfl⟩:=ο.mp hx;have hi:=(Η.mp NZ).1;have hsi:ss[i]?=some (ss[i]'(by have:=hss.1;omega)):=Λ _;generalize ss[i]'(by have:=hss.1;omega)=sl at hsi;have ahW:=hsl _ (Χ hsi);have his:=hss.2 i ii sl NZ hsi;have sZ:=Yg.aj gZ (.tup [.int (i:Int),.ref ii]);refine ⟨Z,_,rfl,aq.of Yb,rfl,_,_,rfl,_,_,rfl,rfl,?_⟩;walk_at "rd";have hT1:=sZ _ _ (sb _ _ (Yj hT gC) hT);have nG:=sZ _ _ hC;have Ef:SameBut C H (upd H' Z (.tup [.int (i:Int),.ref ii])):=fun b o nb e=>sZ _ _ (sb b o nb e)
  have jm:Nl H (upd H' Z (.tup [.int (i:Int),.ref ii])) as _:=⟨nl.len,nl.nw,nl.nd,fun j a z e1 e2=>sZ _ _ (nl.at_ j a z e1 e2)⟩;have hll:=UQ (us:=us) hsl i (by have:=hss.1;omega);rw [<- nl.len] at hll
  have Eh:=sZ _ _ (sb _ _ (Yj his gC) his);generalize upd H' Z (.tup [.int (i:Int),.ref ii])=H1 at sZ hT1 nG Ef jm Eh;refine ⟨.inl ⟨rfl,_,aA.of nG⟩,?_⟩;refine Yer (K:=g.K) (b:=ii) (xs:=sl) (sl.map fun s=>us.take i++[s]++us.drop (i+1)) (fun R r=>by walk_at "rd";exact r) Eh (by simp) (by omega) ?_ ?_
  ·intro j y z H2 hy hz sm R r
   rw [Υ,hy] at hz
   cases Ε hz
   walk_at "rd";refine ⟨_,aA.of (sm _ _ hT1),fun X gX=>?_⟩;rw [Wq];have sX:=Yg.aj gX (.lst (us.take i));refine ⟨few (by decide),fun Y gY=>?_⟩;have sY:=Yg.aj gY (.lst [y]);refine ⟨_,sY _ _ Yb,_,Yb,few (by simp;omega),fun W gW=>?_⟩;have sW:=Yg.aj gW (.lst (us.take i++[y]));refine ⟨_,aA.of (sW _ _ (sY _ _ (sX _ _ (sm _ _ hT1)))),fun X2 gX2=>?_⟩;rw [show (i:Int)+1=((i+1:Nat):Int) by omega,Vj];have N5:=Yg.aj gX2 (.lst (us.drop (i+1)));refine ⟨_,N5 _ _ Yb,_,Yb,few (by simp;omega),fun A gA=>?_⟩;have s5:=((sX.trans sY).trans sW).trans N5;exact r A _ (s5.trans (.aj gA _)) (s5.free gA) Yb
  ·intro D bs H2 sm gD hD ig
   have hC2:=sm _ _ nG;have nCD:C≠D:=Yj nG gD;refine ⟨C,D,_,_,rfl,rfl,hC2,hD,few (by have:=ig.len;simp at this;simp;omega),fun b o nb e=>by rw [Ye nb];exact sm _ _ (Ef b o nb e),as++bs,by rw [Yb,am],?_,?_⟩
   ·intro h
    rcases τ.mp h with h | h
    ·exact wY h
    ·have:=ig.nw C h;rw [nG] at this;cases this
   ·rw [ie,am,List.flatten_append]
    have e0:ss.getD i []=sl:=by rw [eu,hsi];rfl
    simp only [aS,ip,List.flatten_cons,List.flatten_nil,bi,e0];have alv:∀ a∈as,H1 a≠none:=fun a ha=>by
     obtain ⟨j,hj⟩:=bc ha;have e:=(Η.mp hj).1;have hz:(((a9 i).map fun i=>(ss.getD i []).map fun s=>us.take i++[s]++us.drop (i+1)).flatten)[j]?=some ((((a9 i).map fun i=>(ss.getD i []).map fun s=>us.take i++[s]++us.drop (i+1)).flatten)[j]'(by rw [<- jm.len];exact e)):=Λ _;rw [jm.at_ j a _ hj hz];simp
    have hb:∀ b∈bs,b≠C:=fun b hb z=>by have:=ig.nw b hb;rw [z,nG] at this;cases this
    refine jm.app ⟨ig.len,ig.nw,ig.nd,fun j a z e1 e2=>by rw [Ye (hb a (Χ e1))];exact ig.at_ j a z e1 e2⟩ alv (fun x gx=>?_) (fun a ha o e=>by rw [Ye fun z=>wY (by rw [<- z];exact ha)];exact sm _ _ e)
    cases e:H x with
    | none=>rfl
    | some o =>
     by_cases c:x=C
     ·rw [c,nG] at gx;cases gx
     ·rw [Ef x o c e] at gx;cases gx
 ·rintro σ H' ⟨o3,o4,as,rfl,sb,hC,wY,nl⟩
  refine rr _ _ ?_;walk_at "rd";rw [Θ,hss.1] at nl
  exact q C as H' (fun b o e=>sb b o (Yj e gC) e) gC hC wY nl
def fS (b:V) (ls:Addr):List (Str×V):=[("book",b),("lister",.ref ls)]
theorem Qg (b:V) (ls:Addr):(fS b ls).lookup ("book":Str)=some b:=rfl
theorem Ydm (b:V) (ls:Addr):(fS b ls).lookup ("lister":Str)=some (.ref ls):=Nv (by decide +kernel) (by decide +kernel)
theorem QT {m:Str} (b:V) (ls:Addr) (h:(m==("book":Str))=false) (h2:(m==("lister":Str))=false):(fS b ls).lookup m=none:=uT h h2
def mu (d:Addr) (f:Bool->Option (Addr×List Addr)) (x:Addr):Prop:=x=d\/∃ k p ms,f k=some (p,ms)/\x∈ms
structure Go (d:Addr) (H:Hp) (f:Bool->Option (Addr×List Addr)) (H':Hp) (f':Bool->Option (Addr×List Addr)):Prop where
 fr:∀ x o,¬ mu d f x->H x=some o->H' x=some o
 up:∀ j z,f j=some z->f' j=some z
 nw:∀ x,mu d f' x->mu d f x\/H x=none
theorem Go.out {d:Addr} {H H':Hp} {f f':Bool->Option (Addr×List Addr)} (g:Go d H f H' f') {x:Addr} (h:¬ mu d f x) (hx:H x≠none):¬ mu d f' x:=fun z=>(g.nw x z).elim h hx
theorem Go.trans {d:Addr} {H H1 H2:Hp} {f f1 f2:Bool->Option (Addr×List Addr)} (a:Go d H f H1 f1) (b:Go d H1 f1 H2 f2):Go d H f H2 f2:=⟨fun x o h e=>b.fr x o (a.out h (by rw [e];simp)) (a.fr x o h e),fun j z e=>b.up j z (a.up j z e),fun x h=>by
 rcases b.nw x h with h | h
 ·exact a.nw x h
 ·by_cases c:mu d f x
  ·exact .inl c
  ·refine .inr ?_
   cases e:H x with
   | none=>rfl
   | some o=>rw [a.fr x o c e] at h;cases h⟩
theorem Wb {d:Addr} {H H':Hp} {f:Bool->Option (Addr×List Addr)} (s:Yg H H'):Go d H f H' f:=⟨fun _ _ _ e=>s _ _ e,fun _ _ e=>e,fun _ h => .inl h⟩
structure SI (P:Ρ) (w:Ω) (K:Ι) (C:Cs) (CL CS:Addr) (H:Hp) (st ds ls dl d:Addr) (b:V) (lo:Int) (f:Bool->Option (Addr×List Addr)) (xs:Dx):Prop where
 iH:H st=some (.ins CS ds (fS b ls))
 li:Li P w K C CL H ls dl d b lo f xs
section
 variable {P:Ρ} {w:Ω} {K:Ι} {C:Cs} {CL CS:Addr} {H H':Hp} {st ds ls dl d:Addr} {b:V} {lo:Int} {f:Bool->Option (Addr×List Addr)} {xs:Dx}
theorem Li.jz (L:Li P w K C CL H ls dl d b lo f xs) {x:Addr} (h:mu d f x):(∃ o,H x=some o)/\(∀ ys,H x≠some (.tup ys))/\∀ c e fs,H x≠some (.ins c e fs):=by
 rcases h with rfl | ⟨k,p,ms,e,hx⟩
 ·rw [L.hd.at_];exact ⟨⟨_,rfl⟩,(fun _ z=>by cases z),fun _ _ _ z=>by cases z⟩
 ·obtain ⟨ys,e⟩:=(L.lG k p ms e).ls x hx
  rw [e];exact ⟨⟨_,rfl⟩,(fun _ z=>by cases z),fun _ _ _ z=>by cases z⟩
theorem Li.new (L:Li P w K C CL H ls dl d b lo f xs) {x:Addr} (h:H x=none):¬ mu d f x:=fun z=>by
 obtain ⟨⟨o,e⟩,_⟩:=L.jz z;rw [h] at e;cases e
theorem Li.tp (L:Li P w K C CL H ls dl d b lo f xs) {f':Bool->Option (Addr×List Addr)} (g:Go d H f H' f'):Tp H H':=fun x ys e=>g.fr x _ (fun z=>(L.jz z).2.1 _ e) e
theorem Li.ins (L:Li P w K C CL H ls dl d b lo f xs) {f':Bool->Option (Addr×List Addr)} (g:Go d H f H' f') {x c e:Addr} {fs:List (Str×V)} (h:H x=some (.ins c e fs)):H' x=some (.ins c e fs):=g.fr x _ (fun z=>(L.jz z).2.2 _ _ _ h) h
theorem Li.same (L:Li P w K C CL H ls dl d b lo f xs) (s:Yg H H'):Li P w K C CL H' ls dl d b lo f xs:=⟨s _ _ L.hl,L.hd.keep (Mf s) (s _ _ L.hd.at_),L.len,L.lk,fun k p ms e=>(L.lG k p ms e).stay s,L.dj⟩
theorem SI.same (L:SI P w K C CL CS H st ds ls dl d b lo f xs) (s:Yg H H'):SI P w K C CL CS H' st ds ls dl d b lo f xs:=⟨s _ _ L.iH,L.li.same s⟩
theorem dO.own {k:Nat} {p:Addr} {ms:List Addr} (h:dO C H lo k p ms) {x:Addr} {ys zs:List V} (hx:H x=some (.lst ys)) (hm:x∉ms):dO C (upd H x (.lst zs)) lo k p ms:=by
 cases h with
 | w _ dx c n hp hc=>exact .w p dx c n (by rw [Ye (YE hp hx (by intro z;cases z))];exact hp) (by rw [Ye fun z=>hm (by rw [<- z];exact .head _)];exact hc)
 | r k' _ dx c Pp T dt L' w n rm hc hw =>
  have k:∀ {y:Addr} {o:HO},y≠x->H y=some o->upd H x (.lst zs) y=some o:=fun ne e=>by rw [Ye ne];exact e
  exact .r k' p dx c Pp T dt L' w n ⟨k (YE rm.hp hx (by intro z;cases z)) rm.hp,k (fun z=>hm (by rw [<- z];exact .tail _ (.tail _ (.head _)))) rm.hP,k (YE rm.hT hx (by intro z;cases z)) rm.hT,k (fun z=>hm (by rw [<- z];exact .tail _ (.tail _ (.tail _ (.head _))))) rm.hL,rm.nP,rm.nc,rm.jJ,rm.j6⟩ (k (fun z=>hm (by rw [<- z];exact .head _)) hc) (k (fun z=>hm (by rw [<- z];exact .tail _ (.head _))) hw)
theorem SI.own (L:SI P w K C CL CS H st ds ls dl d b lo f xs) {x:Addr} {ys zs:List V} (hx:H x=some (.lst ys)) (hm:¬ mu d f x):SI P w K C CL CS (upd H x (.lst zs)) st ds ls dl d b lo f xs:=by
 have k:∀ {y:Addr} {o:HO},y≠x->H y=some o->upd H x (.lst zs) y=some o:=fun ne e=>by rw [Ye ne];exact e
 have nd:d≠x:=fun z=>hm (.inl z.symm)
 refine ⟨k (YE L.iH hx (by intro z;cases z)) L.iH,k (YE L.li.hl hx (by intro z;cases z)) L.li.hl,L.li.hd.keep (fun y us h=>h.imp (fun e=>k (YE e hx (by intro z;cases z)) e) fun ⟨o,e⟩=>⟨o,k (YE e hx (by intro z;cases z)) e⟩) (k nd L.li.hd.at_),L.li.len,L.li.lk,fun j p ms e=>(L.li.lG j p ms e).own hx fun z=>hm (.inr ⟨j,p,ms,e,z⟩),L.li.dj⟩
end
inductive N6 (P:Ρ) (w:Ω) (K:Ι) (C:Cs) (CL CS:Addr) (vs:List V) (H:Hp) (Q:VK) (E_:XK):Prop
 | mk (st ds:Addr) (b:V) (lo:Int) (h0:vs=[.ref st,b]) (h1:H st=some (.ins CS ds [])) (h2:∀ ls dl d H',SameBut st H H'->SI P w K C CL CS H' st ds ls dl d b lo (fun _=>none) []->H d=none->Q .non H')
theorem Z3r {k:Nat} {Z7 Z1 Z2 Z6 Z0:Addr} (R:g.fC "Stepper" Z6 "Stepper.__init__" CZ ["self","book"]) {fY:Nat} (Z45:g.Ma fY "Lister" Z7 ["self","book"] (Nu g.P g.w Z7)) (ug:fY+1<=k) (Zk:Cls g.K Z6) (Ze:Yo g.K Z6 "book") (Zc:Yo g.K Z6 "lister"):g.Ma (k+1) "Stepper" Z6 ["self","book"] (N6 g.P g.w g.K (Cs.mk Z0 Z1 Z2) Z7 Z6):=by
 refine R.ma Z3f (fun vs H Q E h=>by obtain ⟨st,ds,b,lo,rfl,hst,q⟩:=h;rfl) fun f_ cdv A outer s H vs Q E hr h=>?_
 obtain ⟨st,ds,b,lo,rfl,hst,q⟩:=h;refine ⟨_,(@Yd _ _ _ _ _ (@XR _ _ _ _ _ _ _ _ (pv 0) (pv 1) rfl) (@Yf _ _ _ (@XR _ _ _ _ _ _ _ _ (pv 0) (@UH _ _ _ _ _ _ _ _ _ _ _ _ _ Z45 hr (@Ya _ _ _ _ _ (pv 1) Yc (by rfl)) (by omega) (by rfl) (by rfl) (by decide) (by rfl) (by rfl)) rfl))),?_⟩;walk_at "rd";refine ⟨Z6,ds,_,hst,Zk,Ze,by decide,fun ls dl gl N7 hne=>?_⟩;obtain ⟨H1,hH1⟩:∃ H1,H1=upd H st (.ins Z6 ds (Y5 "book" b [])):=⟨_,rfl⟩;rw [<- hH1] at gl N7 ⊢
 have h1:H1 st=some (.ins Z6 ds (Y5 "book" b [])):=by rw [hH1,Yb]
 refine ⟨ls,dl,b,rfl,Yb,fun d H2 gd sb hl hd=>⟨rfl,?_⟩⟩;have s2:=W8 gl N7 sb;have h2:=s2 _ _ h1;refine ⟨Z6,ds,_,h2,Zk,Zc,Vo (show 1<=3 by decide),?_⟩;have N8:=XH (XH gd);have nst:ls≠st:=ψ (Yj h1 gl);have Sh:d≠st:=YE hd h2 (by intro z;cases z);have fr:∀ {x:Addr} {o:HO},x≠st->H x=some o->H1 x=some o:=fun n e=>by rw [hH1,Ye n];exact e
 refine q ls dl d _ (fun x o nx e=>by rw [Ye nx];exact s2 _ _ (fr nx e)) ⟨?_,by rw [Ye nst];exact hl,Ydc (by rw [Ye Sh];exact hd),rfl,fun k=>rfl,fun k p ms e=>(by cases e),fun p ms p' dJ e=>(by cases e)⟩ ?_
 ·rw [Yb]
  refine congrArg some (congrArg (HO.ins _ _) ?_)
  show Y5 "lister" (.ref ls) [(("book":Str),b)]=fS b ls
  simp only [Y5,if_neg (n1 (a:=("book":Str)) (b:=("lister":Str)) (by decide +kernel))];rfl
 ·rw [hH1] at N8
  exact XH N8
section
 variable {P:Ρ} {w:Ω} {K:Ι} {C:Cs} {CL CS:Addr} {H H':Hp} {st ds ls dl d:Addr} {b:V} {lo:Int} {f:Bool->Option (Addr×List Addr)} {xs:Dx}
theorem dO.Ja {k:Nat} {p:Addr} {ms dJ:List Addr} (h:dO C H lo k p ms) (fr:∀ x o,x∉dJ->H x=some o->H' x=some o) (hm:∀ x∈dJ,∃ ys,H x=some (.lst ys)) (dj:∀ x∈ms,x∉dJ):dO C H' lo k p ms:=by
 have ki:∀ {y c e:Addr} {fs:List (Str×V)},H y=some (.ins c e fs)->H' y=some (.ins c e fs):=fun e=>fr _ _ (fun z=>by obtain ⟨ys,e'⟩:=hm _ z;rw [e] at e';cases e') e
 cases h with
 | w _ dx c n hp hc=>exact .w p dx c n (ki hp) (fr _ _ (dj c (.head _)) hc)
 | r k' _ dx c Pp T dt L' w n rm hc hw=>exact .r k' p dx c Pp T dt L' w n ⟨ki rm.hp,fr _ _ (dj Pp (.tail _ (.tail _ (.head _)))) rm.hP,ki rm.hT,fr _ _ (dj L' (.tail _ (.tail _ (.tail _ (.head _))))) rm.hL,rm.nP,rm.nc,rm.jJ,rm.j6⟩ (fr _ _ (dj c (.head _)) hc) (fr _ _ (dj w (.tail _ (.head _))) hw)
theorem Li.cnt (L:Li P w K C CL H ls dl d b lo f xs) {k:Bool} {p:Addr} {ms:List Addr} (e:f k=some (p,ms)) (fr:∀ x o,x∉ms->H x=some o->H' x=some o) (m:dO C H' lo k.toNat p ms):Li P w K C CL H' ls dl d b lo f xs:=by
 have hm:=(L.lG k p ms e).ls;have nl:∀ {x:Addr} {o:HO},H x=some o->(∀ ys,o ≠ .lst ys)->H' x=some o:=fun e' ne=>fr _ _ (fun z=>by obtain ⟨ys,e2⟩:=hm _ z;rw [e'] at e2;exact ne _ (Ε e2)) e'
 refine ⟨nl L.hl (by intro ys z;cases z),L.hd.keep (fun y us h=>h.imp (fun e=>nl e (by intro ys z;cases z)) fun ⟨o,e⟩=>⟨o,nl e (by intro ys z;cases z)⟩) (nl L.hd.at_ (by intro ys z;cases z)),L.len,L.lk,fun j p' dJ e'=>?_,L.dj⟩;by_cases c:j=k
 ·subst c
  rw [e] at e'
  cases Ε e'
  exact m
 ·refine (L.lG j p' dJ e').Ja fr hm fun x h1 h2=>?_
  cases j<;>cases k<;>first | exact c rfl | exact L.dj _ _ _ _ e' e x h1 h2 | exact L.dj _ _ _ _ e e' x h2 h1
end
theorem Ydn {K:Ι} {tl:TE} {g:TG} {tb:TS} {D:Ends} {σ:St} {H:Hp} {xs:List V} (Pv:Addr->Nat->St->Hp->Prop) (ha:∀ R:V->Hp->Prop,(∀ c H1,Pv c 0 σ H1->R (.ref c) H1)->tl σ H R) (hl:∀ c i σ H,i<=xs.length->Pv c i σ H->aq K H c xs)
  (hs:∀ c (i:Nat) x σ H,xs[i]?=some x->Pv c i σ H->g x σ H fun σ2 H2=>tb { D with nx:=Pv c (i+1),ct:=Pv c (i+1),bk:=D.nx } σ2 H2) (hd:∀ c σ H,Pv c xs.length σ H->D.nx σ H):Vt (uw K tl) g tb D σ H:=by
 refine ha _ fun c H1 h0=>⟨c,rfl,⟨xs,hl c 0 σ H1 (ar _) h0⟩,?_⟩
 exact T7 (Pv c) h0 (hl c) (hs c) (hd c)
theorem Go.own {d X:Addr} {H H':Hp} {o':HO} {f f':Bool->Option (Addr×List Addr)} (g:Go d H f H' f') (h:H X=none):Go d H f (upd H' X o') f':=⟨fun x o hm e=>by rw [Ye (Yj e h)];exact g.fr x o hm e,g.up,g.nw⟩
theorem Oa {d:Addr} {H H':Hp} {f f':Bool->Option (Addr×List Addr)} (up:∀ j z,f j=some z->f' j=some z) (nw:∀ j q dJ,f' j=some (q,dJ)->f j=none->∀ x∈dJ,H x=none) (fr:∀ x o,x≠d->H x=some o->H' x=some o):Go d H f H' f':=⟨fun x o h e=>fr x o (fun z=>h (.inl z)) e,up,fun x h=>by
 rcases h with h | ⟨j,p,ms,e,hx⟩
 ·exact .inl (.inl h)
 ·cases ef:f j with
  | none=>exact .inr (nw j p ms e ef x hx)
  | some z =>
   have:=up j z ef;rw [e] at this
   cases Ε this
   exact .inl (.inr ⟨j,p,ms,ef,hx⟩)⟩
theorem YN.snoc {H:Hp} {lo:Int} {us:List V} {xs:List Dd} {u:V} {x:Dd} (h:YN H lo us xs) (hu:Y6 H lo u x):YN H lo (us++[u]) (xs++[x]):=⟨by rw [Κ,Κ,h.1];rfl,fun i v y e1 e2=>by
 by_cases c:i<us.length
 ·rw [υ c] at e1
  rw [υ (by have:=h.1;omega)] at e2
  exact h.2 i v y e1 e2
 ·have hi:i=us.length:=by
   have:=(Η.mp e1).1;rw [Κ,ω] at this
   omega
  subst hi;rw [ac (Ν _),eJ] at e1
  rw [h.1,ac (Ν _),eJ] at e2
  cases Ε e1
  cases Ε e2
  exact hu⟩
theorem Y6.two {H:Hp} {lo:Int} {v:V} {x:Dd} (h:Y6 H lo v x):∃ a u,v = .ref a/\H a=some (.tup [.str (bx (dk x)),u])/\(dB x->Vx H lo (lE (dk x)) u (some (dY x))):=by
 cases x with
 | put o=>obtain ⟨a,e,h⟩:=h;exact ⟨a,_,e,h,fun k => .wh o k⟩
 | ask=>obtain ⟨a,b,e,h,h2⟩:=h;exact ⟨a,_,e,h,fun _ => .aX b h2⟩
theorem V9 (x:Dd):dk x<2:=by cases x<;>simp [dk]
theorem Y6.vx {H:Hp} {lo:Int} {v:V} {x:Dd} (h:Y6 H lo v x) (k:dB x):Vx H lo .pk v (some (dY x)):=by
 obtain ⟨a,u,rfl,ha,hu⟩:=h.two;exact .pk a (dk x) u _ (V9 x) ha (hu k)
structure Bo (H:Hp) (lo:Int) (B d:Addr) (f:Bool->Option (Addr×List Addr)):Prop where
 bk:cX H lo B
 out:¬ mu d f B
theorem Bo.go {H H':Hp} {lo:Int} {B d:Addr} {f f':Bool->Option (Addr×List Addr)} (h:Bo H lo B d f) (t:Tp H H') (g:Go d H f H' f'):Bo H' lo B d f':=by
 obtain ⟨p,m,h1,h2,h3⟩:=h.bk.ex;exact ⟨⟨p,m,g.fr _ _ h.out h1,t _ _ h2,h3.tp t⟩,g.out h.out (by rw [h1];simp)⟩
def wZ (x:Dd):List Dd:=if dY x=0 then [] else (a9 (dk x)).map sH
inductive xg (P:Ρ) (w:Ω) (K:Ι) (C:Cs) (CL CS:Addr) (vs:List V) (H:Hp) (Q:VK) (E_:XK):Prop
 | mk (st ds ls dl d B:Addr) (lo:Int) (f:Bool->Option (Addr×List Addr)) (xs:Dx) (a:Addr) (v:V) (x:Dd) (h0:vs=[.ref st,.ref a,v]) (h1:SI P w K C CL CS H st ds ls dl d (.ref B) lo f xs) (h2:Bo H lo B d f) (h3:Y7 H lo a .pk) (h4:Y6 H lo v x) (h5:dB x) (h6:∀ D us H' f' xs',SI P w K C CL CS H' st ds ls dl d (.ref B) lo f' xs'->Go d H f H' f'->H D=none->¬ mu d f' D->H' D=some (.lst us)->YN H' lo us (wZ x)->Q (.ref D) H')
theorem Ygn {o:Nat} (h:o<=7):jW o<=8:=by
 unfold jW eQ
 split
 ·omega
 ·have:o.log2<8:=by
   by_cases c:o=0
   ·subst c;decide
   ·exact (lb c).mpr (by omega)
  simp only [ix];omega
theorem Ygo {x:Dd} (h:dB x):dY x<=8:=by
 cases x with
 | put o=>exact Ygn h
 | ask=>simp [dY]
theorem Z23 {k:Nat} {Z7 Z1 Z2 Z6 Z0:Addr} (R:g.bw Z6 "leasts_ahead" "Stepper.leasts_ahead" ZZ ["self","shape","value"]) (ZG:g.Fn k "branch_place" ["branches","mark"] (jX)) (sS:g.Fn k "size_of" ["book","shape","value"] (rW g.K)) (lQ:g.Fn k "least_below" ["maker","below"] (wO (Cs.mk Z0 Z1 Z2))) (Z46:g.Me k Z7 "maker_of" ["self","shape"] (wV g.P g.w g.K (Cs.mk Z0 Z1 Z2) Z7)) (Zu:Cls g.K Z7) (Zy:Yo g.K Z7 "book") (Zn:Yo g.K Z7 "makers") (Zk:Cls g.K Z6) (Ze:Yo g.K Z6 "book") (Zc:Yo g.K Z6 "lister"):g.Me (k+1) Z6 "leasts_ahead" ["self","shape","value"] (xg g.P g.w g.K (Cs.mk Z0 Z1 Z2) Z7 Z6):=by
 refine R.me Zr (fun vs H Q E h=>by obtain ⟨st,ds,ls,dl,d,B,lo,f,xs,a,v,x,rfl,si,bo,hS,hv,hx,q⟩:=h;rfl) fun f_ cdv A outer s H vs Q E hr h=>?_
 obtain ⟨st,ds,ls,dl,d,B,lo,f,xs,a,v,x,rfl,si,bo,hS,hv,hx,q⟩:=h;refine ⟨_,(@Yd _ _ _ _ _ (@Yv _ _ (3) _ _ _ _ Zr.nd rfl (.inl rfl) (@Yr _ _ _ _ _ _ _ _ _ _ _ _ sS hr (@Ya _ _ _ _ _ (@Y4 _ _ _ _ _ (pv 0) rfl) (@Ya _ _ _ _ _ (pv 1) (@Ya _ _ _ _ _ (pv 2) Yc (by rfl)) (by rfl)) (by rfl)) (by omega) (by rfl) (by rfl) (by decide) (by rfl) (by rfl)) (by rfl) (by first | exact .inl rfl | exact .inr rfl | assumption)) (@Yd _ _ _ _ _ (@Yv _ _ (4) _ _ _ _ Zr.nd rfl (.inl rfl) (@Y0 _ _ _ _ Yc) (by rfl) (by first | exact .inl rfl | exact .inr rfl | assumption)) (@Yd _ _ _ _ _ (@XE _ _ _ _ _ _ _ _ av rfl (@QX _ _ _ _ (@Xr _ _ _ _ _ _ _ _ _ _ YfX (@Yu _ _ _ _ _ _ _ Yw (pv 1) Yh (fun _ _=>rfl)) Xx (@Xy _ _ _ (@Yr _ _ _ _ _ _ _ _ _ _ _ _ ZG hr (@Ya _ _ _ _ _ (@Yu _ _ _ _ _ _ _ Yw (pv 1) Yh (fun _ _=>rfl)) (@Ya _ _ _ _ _ (@Yu _ _ _ _ _ _ _ Yw (pv 2) Yh (fun _ _=>rfl)) Yc (by rfl)) (by rfl)) (by omega) (by rfl) (by rfl) (by decide) (by rfl) (by rfl))))) (@WD _ _ _ _ _ (2) rfl (@Xb _ _ _ _ _ (@YD _ _ (5) _ Zr.nd rfl (.inl rfl) (by first | exact .inl rfl | exact .inr rfl | assumption)) (@Xb _ _ _ _ _ (@YD _ _ (6) _ Zr.nd rfl (.inl rfl) (by first | exact .inl rfl | exact .inr rfl | assumption)) X9 (by rfl)) (by rfl)) (by rfl) (by rfl)) (@Yd _ _ _ _ _ (@Yv _ _ (7) _ _ _ _ Zr.nd rfl (.inl rfl) (@Yr _ _ _ _ _ _ _ _ _ _ _ _ lQ hr (@Ya _ _ _ _ _ (@Wy _ _ _ _ _ _ _ _ _ _ _ _ _ _ _ _ Z46 Zu hr (@Y4 _ _ _ _ _ (pv 0) rfl) (@Ya _ _ _ _ _ (pv 6) Yc (by rfl)) (by omega) (by rfl) (by rfl) (by rfl) (by rfl)) (@Ya _ _ _ _ _ (pv 3) Yc (by rfl)) (by rfl)) (by omega) (by rfl) (by rfl) (by decide) (by rfl) (by rfl)) (by rfl) (by first | exact .inl rfl | exact .inr rfl | assumption)) (@Yf _ _ _ (@Yy _ _ _ _ _ _ _ _ (@Yt _ _ _ _ _ _ _ _ V0 (pv 7) Xk (Yq _)) (@Yf _ _ _ (@Xc _ _ _ _ (@X4 _ _ _ _ _ _ _ _ _ _ _ _ bt bE ci Xv (pv 4) (@Ya _ _ _ _ _ (@YR _ _ _ _ _ (@Ya _ _ _ _ _ (pv 5) (@Ya _ _ _ _ _ (pv 7) Yc (by rfl)) (by rfl))) Yc (YY _ _ _ _ _)) (by rfl) (by rfl) (by rfl) (by rfl) (by rfl)) (by rfl))) Yp))) (by intro _;rfl)) (@Yf _ _ _ (@Yl _ _ _ _ (pv 4)))))),?_⟩;obtain ⟨b',c0,c1,p0,p1,e0,h1,hP⟩:=id hS;obtain ⟨a',u,rfl,ha,hu⟩:=hv.two;have d8:=Ygo hx;have hd2:=V9 x;refine Ym fun R rr=>?_
 walk_at "rd";refine ⟨_,_,_,si.iH,Zk,Ze,_,Qg _ _,B,lo,a,.pk,.ref a',dY x,rfl,bo.bk,hS,hv.vx hx,fun H1 s1=>rr _ _ (Ym fun R rr=>?_)⟩;walk_at "rd";refine ⟨few (by decide),fun X gX=>rr _ _ (Ym fun R rr=>?_)⟩;have sX:=Yg.aj gX (.lst []);have s2:=s1.trans sX;have Ei:H X=none:=s1.free gX;have si2:=si.same s2;have hP2:=hP.tp (YX (Yn s2));refine Ydn (xs:=([.ref c0,.ref c1]:List V).take (dk x)) (fun c i σ H'=>∃ (o5 o6 o7:Option V) (us:List V) (f':Bool->Option (Addr×List Addr)) (xs':Dx),σ=[some (.ref st),some (.ref a),some (.ref a'),some (.int (dY x:Nat)),some (.ref X),o5,o6,o7]/\H' c=some (.tup (([.ref c0,.ref c1]:List V).take (dk x)))/\SI g.P g.w g.K (Cs.mk Z0 Z1 Z2) Z7 Z6 H' st ds ls dl d (.ref B) lo f' xs'/\Go d H f H' f'/\¬ mu d f' X/\H' X=some (.lst us)/\YN H' lo us (if dY x=0 then [] else (a9 i).map sH)) (fun R r=>?_) (fun c i σ H' _ ⟨_,_,_,_,_,_,_,hc,_⟩=>aq.of hc) ?_ ?_
 ·walk_at "rd"
  refine ⟨_,aq.of (s2 _ _ h1),_,Yk (j:=1) rfl,_,aq.of (s2 _ _ h1),_,Yk (j:=1) rfl,_,aq.of (s2 _ _ ha),_,Yk (j:=0) rfl,lo,bx (dk x),b',c0,c1,p0,p1,e0,rfl,hP2,fun H3 s3=>?_⟩;rw [Dn hd2];refine ⟨_,rfl,b',_,rfl,aq.of (s3 _ _ hP2.b),?_,fun p hp=>?_⟩
  ·have:dk x=0\/dk x=1:=by omega
   show ¬ (HT.aV 2 0 none=0/\HT.aV 2 2 (some (dk x:Int))=2)
   rcases this with e | e<;>rw [e]<;>decide
  ·have sp:=Yg.aj hp (.tup (WJ [.ref c0,.ref c1] none (some (dk x:Int))))
   have s4:=s3.trans sp;refine r p _ ⟨none,none,none,[],f,xs,rfl,by rw [Yb,Wq],si2.same s4,Wb (s2.trans s4),si.li.new Ei,s4 _ _ Yb,?_⟩
   split<;>exact ⟨rfl,fun i u x h=>by cases h⟩
 ·rintro c i y σ H' hy ⟨o5,o6,o7,us,f',xs',rfl,hc,dR,go,hX,pW,al⟩
  have hi:i<dk x:=by
   have:=(Η.mp hy).1;rw [ν] at this
   omega
  obtain rfl:i=0:=by omega
  rw [List.getElem?_take_of_lt hi] at hy
  cases Ε hy
  have tp:=si.li.tp go;have hk:W9 H' lo p0 (true:Bool).toNat:=(if_neg (by decide)).mpr ⟨e0,tp _ _ hP.p0,tp _ _ hP.e0⟩;refine ⟨c0,_,rfl,aq.of (tp _ _ hP.c0),rfl,_,_,rfl,_,_,rfl,rfl,Ym fun R rr=>?_⟩;walk_at "rd";refine ⟨_,_,_,dR.iH,Zk,Zc,_,Ydm _ _,ls,rfl,_,_,dR.li.hl,Nt _ _ (by decide +kernel) (by decide +kernel),ls,dl,d,.ref B,lo,f',xs',p0,true,rfl,dR.li,hk,fun p ms H4 f4 xq L4 e4 Ob Oc Od=>?_⟩;refine ⟨p,lo,(true:Bool).toNat,ms,dY x,rfl,by omega,L4.lG true p ms e4,fun z=>?_,fun z v H5 mU mk5 lv=>?_⟩
  ·have jq:=Oa Ob Oc Od
   have si4:SI g.P g.w g.K (Cs.mk Z0 Z1 Z2) Z7 Z6 H4 st ds ls dl d (.ref B) lo f4 xq:=⟨dR.li.ins jq dR.iH,L4⟩;have Oe:=dR.li.tp jq;refine rr _ _ ?_;walk_at "rd";refine ⟨Oe _ _ hc,us,f4,xq,si4,go.trans jq,jq.out hX (by rw [pW];simp),jq.fr _ _ hX pW,?_⟩;rw [if_pos z] at al ⊢
   exact al.tp Oe
  ·have jq:=Oa Ob Oc Od
   have iI:Go d H4 f4 H5 f4:=⟨fun y o h e=>mU y o (fun hm=>h (.inr ⟨true,p,ms,e4,hm⟩)) e,fun _ _ e=>e,fun _ h => .inl h⟩;have Ej:SI g.P g.w g.K (Cs.mk Z0 Z1 Z2) Z7 Z6 H5 st ds ls dl d (.ref B) lo f4 xq:=⟨L4.ins iI (dR.li.ins jq dR.iH),L4.cnt e4 mU mk5⟩;have Ek:=(dR.li.tp jq).trans (L4.tp iI);have El:=jq.out hX (by rw [pW];simp);have Em:=iI.fr _ _ El (jq.fr _ _ hX pW);obtain ⟨b0,rfl,hb0⟩:=lv;refine rr _ _ ?_;walk_at "rd";refine ⟨.inl ⟨rfl,_,aA.of Em⟩,few (by decide),fun Y gY=>?_⟩;have sY:=Yg.aj gY (.tup [.str (bx 0),.ref b0]);have sU:=sY _ _ Em;have hl:=al.1;have sV:=(Ek.trans (YX (Yn sY))).trans (WH (ys:=us++[.ref Y]) sU);have hl3:us.length<=3:=by rw [hl];split<;>simp
   refine ⟨_,sU,few (by omega),sV _ _ hc,us++[.ref Y],f4,xq,(Ej.same sY).own sU El,?_,El,Yb,?_⟩
   ·exact (((go.trans jq).trans iI).trans (Wb sY)).own Ei
   ·rw [if_neg (by omega)] at al ⊢
    rw [ie,am];exact (al.tp sV).snoc ⟨Y,b0,rfl,WH sU _ _ Yb,WH sU _ _ (sY _ _ hb0)⟩
 ·rintro c σ H' ⟨o5,o6,o7,us,f',xs',rfl,hc,dR,go,hX,pW,al⟩
  refine rr _ _ ?_;walk_at "rd";rw [ν] at al
  refine q X us H' f' xs' dR go Ei hX pW ?_;have:min (dk x) [V.ref c0,V.ref c1].length=dk x:=by simp;omega
  rw [this] at al
  exact al
inductive j7 (K:Ι) (m:Nat) (vs:List V) (H:Hp) (Q:VK) (E_:XK):Prop
 | mk (B u:Addr) (lo:Int) (a:Addr) (s:Sd) (v:V) (r:Option Nat) (L:List (Sd×V×Option Nat)) (h0:vs=[.ref B,.ref u,.ref a,v]) (h1:cX H lo B) (h2:Y7 H lo u .us) (h3:Y7 H lo a s) (h4:Wi H lo s v r L) (h5:r.isSome=true) (h6:jg s<=m) (h7:jg s<=3) (h8:∀ D H',Yg H H'->H D=none->H' D=some (.lst [])->Q (.ref D) H')
theorem Ygp {K:Ι} {vs:List V} {H:Hp} {Q:VK} {E:XK} (h:j7 K 0 vs H Q E):False:=by
 obtain ⟨B,u,lo,a,s,v,r,L,_,_,_,_,_,_,h,_⟩:=h
 cases s<;>simp [jg] at h
def jr (lo:Int):Sd->ξ
 | .wh => .tuple [.str "whole",.int lo,.int (lo+7)]
 | .aX => .tuple [.str "row",.tuple []]
 | .pk => .tuple [.str "pick",.tuple [.tuple [.str (bx 0),.tuple [.str "row",.tuple []]],.tuple [.str (bx 1),.tuple [.str "whole",.int lo,.int (lo+7)]]]]
 | .us => .tuple [.str "use",.str "deed"]
 | .aN => .tuple [.str "many",.tuple [.str "use",.str "deed"]]
theorem Y7.den {K:Ι} {H:Hp} {lo:Int} {a:Addr} {s:Sd} (h:Y7 H lo a s):Den K H (.ref a) (jr lo s):=by
 have dw:∀ {w:Addr},H w=some (.tup (m8 lo))->Den K H (.ref w) (jr lo .wh):=fun {w} hw => .tup (aq.of hw) (.cons (.str _ (by decide +kernel)) (.cons (.int _) (.cons (.int _) .nil)))
 have dr:∀ {w b:Addr},H w=some (.tup [.str "row",.ref b])->H b=some (.tup [])->Den K H (.ref w) (jr lo .aX):=fun {w b} hw hb => .tup (aq.of hw) (.cons (.str _ (by decide +kernel)) (.cons (.tup (aq.of hb) .nil) .nil))
 have du:∀ {w:Addr},H w=some (.tup [.str "use",.str "deed"])->Den K H (.ref w) (jr lo .us):=fun {w} hw => .tup (aq.of hw) (.cons (.str _ (by decide +kernel)) (.cons (.str _ (by decide +kernel)) .nil))
 cases s with
 | wh=>exact dw h
 | aX=>obtain ⟨b,h1,h2⟩:=h;exact dr h1 h2
 | pk =>
  obtain ⟨b,c0,c1,p0,p1,e0,h1,hP⟩:=h;exact .tup (aq.of h1) (.cons (.str _ (by decide +kernel)) (.cons (.tup (aq.of hP.b) (.cons (.tup (aq.of hP.c0) (.cons (.str _ (by decide +kernel)) (.cons (dr hP.p0 hP.e0) .nil))) (.cons (.tup (aq.of hP.c1) (.cons (.str _ (by decide +kernel)) (.cons (dw hP.p1) .nil))) .nil))) .nil))
 | us=>exact du h
 | aN=>obtain ⟨e,h1,h2⟩:=h;exact .tup (aq.of h1) (.cons (.str _ (by decide +kernel)) (.cons (du h2) .nil))
theorem Jb (lo:Int) {s:Sd} (h:s ≠ .us):(jr lo s).eqv (jr lo .us)=false:=by
 cases s with
 | us=>exact absurd rfl h
 | wh=>simp [jr,a8,cz]
 | aX=>simp [jr,a8,cz]
 | pk=>simp [jr,a8,cz]
 | aN=>simp [jr,a8,cz]
theorem Vx.pX {H:Hp} {lo:Int} {s:Sd} {v:V} {r:Option Nat} (h:Vx H lo s v r) (hr:r.isSome=true):∃ L,Wi H lo s v r L:=by
 rcases h.form with ⟨_,e⟩ | ⟨_,h⟩
 ·rw [e] at hr;cases hr
 ·exact h
theorem Wi.all_some {H:Hp} {lo:Int} {s:Sd} {v:V} {r:Option Nat} {L:List (Sd×V×Option Nat)} (h:Wi H lo s v r L) (hr:r.isSome=true):∀ w∈L,w.2.2.isSome=true:=fun w hw=>by
 cases e:w.2.2 with
 | some n=>rfl
 | none=>rw [h.r.1 ⟨w,hw,e⟩] at hr;cases hr
theorem En {k:Nat}  (R:g.Raw "things_at_use" "things_at_use" BJ ["book","use","shape","value"]) (ZX:g.Fn k "things_within" ["book","shape","value"] (wg g.K)) (Eo:g.Fn k "things_at_use" ["book","use","shape","value"] (j7 g.K m)):g.Fn (k+1) "things_at_use" ["book","use","shape","value"] (j7 g.K (m+1)):=by
 refine R.fn vR (fun vs H Q E h=>by obtain ⟨B,u,lo,a,s,v,r,L,rfl,hB,hu,hS,hv,hso,hm,h3,q⟩:=h;rfl) fun f_ cdv A outer s H vs Q E hr h=>?_
 obtain ⟨B,u,lo,a,s,v,r,L,rfl,hB,hu,hS,hv,hso,hm,h3,q⟩:=h;refine ⟨_,(@Yd _ _ _ _ _ (@Yv _ _ (4) _ _ _ _ vR.nd rfl (.inl rfl) (@Y0 _ _ _ _ Yc) (by rfl) (by first | exact .inl rfl | exact .inr rfl | assumption)) (@Yd _ _ _ _ _ (@XE _ _ _ _ _ _ _ _ av rfl (@Xe _ _ _ _ (@Yr _ _ _ _ _ _ _ _ _ _ _ _ ZX hr (@Ya _ _ _ _ _ (pv 0) (@Ya _ _ _ _ _ (pv 2) (@Ya _ _ _ _ _ (pv 3) Yc (by rfl)) (by rfl)) (by rfl)) (by omega) (by rfl) (by rfl) (by decide) (by rfl) (by rfl))) (@WD _ _ _ _ _ (2) rfl (@Xb _ _ _ _ _ (@YD _ _ (5) _ vR.nd rfl (.inl rfl) (by first | exact .inl rfl | exact .inr rfl | assumption)) (@Xb _ _ _ _ _ (@YD _ _ (6) _ vR.nd rfl (.inl rfl) (by first | exact .inl rfl | exact .inr rfl | assumption)) X9 (by rfl)) (by rfl)) (by rfl) (by rfl)) (@Yd _ _ _ _ _ (@Yy _ _ _ _ _ _ _ _ (@Yt _ _ _ _ _ _ _ _ (Q6 hr.units) (pv 5) (pv 1) (Yq _)) (@Yf _ _ _ (@Xc _ _ _ _ (@X4 _ _ _ _ _ _ _ _ _ _ _ _ bt bE ci Xv (pv 4) (@Ya _ _ _ _ _ (pv 6) Yc (by rfl)) (by rfl) (by rfl) (by rfl) (by rfl) (by rfl)) (by rfl))) Yp) (@Yf _ _ _ (@Xc _ _ _ _ (@X4 _ _ _ _ _ _ _ _ _ _ _ _ bt F.slot_list_extend F.type_list_extend VP (pv 4) (@Ya _ _ _ _ _ (@Yr _ _ _ _ _ _ _ _ _ _ _ _ Eo hr (@Ya _ _ _ _ _ (pv 0) (@Ya _ _ _ _ _ (pv 1) (@Ya _ _ _ _ _ (pv 5) (@Ya _ _ _ _ _ (pv 6) Yc (by rfl)) (by rfl)) (by rfl)) (by rfl)) (by omega) (by rfl) (by rfl) (by decide) (by rfl) (by rfl)) Yc (by rfl)) (by rfl) (by rfl) (by rfl) (by rfl) (by rfl)) (by rfl)))) (by intro _;rfl)) (@Yf _ _ _ (@Yl _ _ _ _ (pv 4))))),?_⟩;refine Ym fun R rr=>?_
 walk_at "rd";refine ⟨few (by decide),fun X gX=>rr _ _ (Ym fun R rr=>?_)⟩;have sX:=Yg.aj gX (.lst []);have Dq:=hv.len.2;have has:=hv.all_some hso;refine VB (fun l xs H2=>∃ (ts:List Addr),xs=ts.map V.ref/\Yg (upd H X (.lst [])) H2/\H2 l=some (.lst (ts.map V.ref))/\l≠X/\Dm H2 lo ts L) (fun R r=>?_) ?_
 ·walk_at "rd"
  exact ⟨B,lo,a,s,v,_,L,rfl,hB.kt (Yn sX),hS.tp (YX (Yn sX)),hv.kt (Yn sX),fun D ts H' s' gD hD hl pr=>r D _ H' (aA.of hD) ⟨ts,rfl,s',hD,(fun e=>by rw [e,Yb] at gD;cases gD),pr⟩⟩
 ·rintro l xs H2 _ ⟨ts,rfl,s2,hl,hlX,pr⟩
  have qD:=pr.1;have Og:=sX.trans s2;have hX2:=s2 _ _ Yb;refine ⟨fun i σ H'=>(∃ o5 o6,σ=[some (.ref B),some (.ref u),some (.ref a),some v,some (.ref X),o5,o6])/\Yg H2 H',⟨⟨none,none,rfl⟩,.refl _⟩,fun i σ H' _ ⟨_,s⟩=>aA.of (s _ _ hl),?_,?_⟩
  ·rintro i x σ H' hx ⟨⟨o5,o6,rfl⟩,s4⟩
   rw [Υ] at hx
   obtain ⟨t,ht,rfl⟩:=ο.mp hx;have hi:=(Η.mp ht).1;have hwi:L[i]?=some (L[i]'(by omega)):=Λ _;generalize L[i]'(by omega)=w at hwi;have gG:=Χ hwi;obtain ⟨b,e1,e2,e3⟩:=pr.2 i t w ht hwi;have lv:=Dq w gG;have nus:w.1 ≠ .us:=fun z=>by rw [z] at lv;cases s<;>simp [jg] at lv h3
   refine ⟨t,_,rfl,aq.of (s4 _ _ e1),rfl,_,_,rfl,_,_,rfl,rfl,Ym fun R rr=>?_⟩;have k4:=YX (Yn s4);have Ep:=Og.trans s4;obtain ⟨L',hw'⟩:=(e3.kt (Yn s4)).pX (has w gG);walk_at "rd";refine ⟨_,(e2.tp k4).den,_,(hu.tp (YX (Yn Ep))).den,?_,YC (by rw [Jb lo nus];decide) (rr _ _ ?_)⟩
   ·cases w.1<;>simp [jr,cw,aE]
   walk_at "rd";refine ⟨.inl ⟨rfl,_,aA.of (s4 _ _ hX2)⟩,B,u,lo,b,w.1,w.2.1,w.2.2,L',rfl,hB.kt (Yn Ep),hu.tp (YX (Yn Ep)),e2.tp k4,hw',has w gG,by omega,by omega,fun D H5 s5 gD hD=>?_⟩;have Oh:=s5 _ _ (s4 _ _ hX2);refine ⟨X,D,_,_,rfl,rfl,Oh,hD,few (by decide),?_⟩;have e:upd H5 X (.lst ([]++[]))=H5:=by
    funext b
    by_cases c:b=X
    ·rw [c,Yb,Oh];rfl
    ·rw [Ye c]
   rw [e];exact s4.trans s5
  ·rintro σ H' ⟨⟨o5,o6,rfl⟩,s4⟩
   refine rr _ _ ?_;walk_at "rd";exact q X H' (Og.trans s4) gX (s4 _ _ hX2)
inductive F2 {α β:Type} (R:α->β->Prop):List α->List β->Prop
 | nil:F2 R [] []
 | cons {a:α} {b:β} {as:List α} {bs:List β} (h:R a b) (t:F2 R as bs):F2 R (a::as) (b::bs)
section
 variable {α β:Type} {R:α->β->Prop}
theorem F2.len:∀ {as:List α} {bs:List β},F2 R as bs->as.length=bs.length
 | _,_,.nil=>rfl
 | _,_,.cons _ t=>by rw [ai,ai,t.len]
theorem F2.of:∀ {as:List α} {bs:List β},as.length=bs.length->(∀ (i:Nat) a b,as[i]?=some a->bs[i]?=some b->R a b)->F2 R as bs
 | [],[],_,_ => .nil
 | a::as,b::bs,h,k => .cons (k 0 a b rfl rfl) (F2.of (fN h) fun i x y e1 e2=>k (i+1) x y e1 e2)
 | [],_::_,h,_=>by cases h
 | _::_,[],h,_=>by cases h
theorem F2.get:∀ {as:List α} {bs:List β},F2 R as bs->∀ (i:Nat) a b,as[i]?=some a->bs[i]?=some b->R a b
 | _,_,.nil,i,a,b,e,_=>by cases e
 | _,_,.cons h t,0,a,b,e1,e2=>by cases Ε e1;cases Ε e2;exact h
 | _,_,.cons h t,i+1,a,b,e1,e2=>t.get i a b e1 e2
theorem F2.app:∀ {as:List α} {bs:List β} {cs:List α} {ds:List β},F2 R as bs->F2 R cs ds->F2 R (as++cs) (bs++ds)
 | _,_,_,_,.nil,h=>h
 | _,_,_,_,.cons h t,k => .cons h (t.app k)
theorem F2.take:∀ {as:List α} {bs:List β} (n:Nat),F2 R as bs->F2 R (as.take n) (bs.take n)
 | _,_,0,_ => .nil
 | _,_,_+1,.nil => .nil
 | _,_,n+1,.cons h t => .cons h (t.take n)
theorem F2.drop:∀ {as:List α} {bs:List β} (n:Nat),F2 R as bs->F2 R (as.drop n) (bs.drop n)
 | _,_,0,h=>h
 | _,_,_+1,.nil => .nil
 | _,_,n+1,.cons h t=>t.drop n
theorem F2.flat:∀ {as:List (List α)} {bs:List (List β)},F2 (F2 R) as bs->F2 R as.flatten bs.flatten
 | _,_,.nil => .nil
 | _,_,.cons h t=>h.app t.flat
theorem F2.map {α' β':Type} {R':α'->β'->Prop} {f:α->α'} {g:β->β'} (k:∀ a b,R a b->R' (f a) (g b)):∀ {as:List α} {bs:List β},F2 R as bs->F2 R' (as.map f) (bs.map g)
 | _,_,.nil => .nil
 | _,_,.cons h t => .cons (k _ _ h) (t.map k)
theorem F2.imp {R':α->β->Prop} (k:∀ a b,R a b->R' a b):∀ {as:List α} {bs:List β},F2 R as bs->F2 R' as bs
 | _,_,.nil => .nil
 | _,_,.cons h t => .cons (k _ _ h) (t.imp k)
theorem F2.rng {f:Nat->α} {g:Nat->β}:∀ {l:List Nat},(∀ i∈l,R (f i) (g i))->F2 R (l.map f) (l.map g)
 | [],_ => .nil
 | i::l,h => .cons (h i (.head _)) (F2.rng fun j hj=>h j (.tail _ hj))
theorem F2.getD:∀ {as:List (List α)} {bs:List (List β)} (i:Nat),F2 (F2 R) as bs->F2 R (as.getD i []) (bs.getD i [])
 | _,_,_,.nil => .nil
 | _,_,0,.cons h t=>h
 | _,_,i+1,.cons h t=>t.getD i
theorem F2.wo {as:List α} {bs:List β} (h:F2 R as bs):F2 (F2 R) (KW.wo as) (KW.wo bs):=by
 unfold KW.wo;rw [h.len];exact F2.rng fun i _=>(h.take i).app (h.drop (i+1))
theorem F2.wi {as:List α} {bs:List β} {ss:List (List α)} {L:List (List β)} (h:F2 R as bs) (k:F2 (F2 R) ss L):F2 (F2 R) (KW.wi as ss) (KW.wi bs L):=by
 unfold KW.wi;rw [k.len];exact F2.flat (F2.rng fun i _=>F2.map (f:=fun s=>as.take i++[s]++as.drop (i+1)) (g:=fun s=>bs.take i++[s]++bs.drop (i+1)) (fun s t e=>((h.take i).app (.cons e .nil)).app (h.drop (i+1))) (k.getD i))
end
theorem YN.f2 {H:Hp} {lo:Int} {us:List V} {xs:List Dd} (h:YN H lo us xs):F2 (Y6 H lo) us xs:=F2.of h.1 h.2
theorem F2.al {H:Hp} {lo:Int} {us:List V} {xs:List Dd} (h:F2 (Y6 H lo) us xs):YN H lo us xs:=⟨h.len,h.get⟩
def xr (H:Hp) (lo:Int) (as:List Addr) (L:List (List Dd)):Prop:=F2 (fun a xs=>∃ us,H a=some (.lst us)/\YN H lo us xs) as L
theorem Nl.all {H H':Hp} {lo:Int} {as:List Addr} {zs:List (List V)} {L:List (List Dd)} (n:Nl H H' as zs) (h:F2 (F2 (Y6 H' lo)) zs L):xr H' lo as L:=by
 refine F2.of (by rw [n.len,h.len]) fun i a xs e1 e2=>?_
 have hi:=(Η.mp e2).1;have hz:zs[i]?=some (zs[i]'(by have:=h.len;omega)):=Λ _;exact ⟨_,n.at_ i a _ e1 hz,(h.get i _ xs hz e2).al⟩
inductive Rs (H:Hp) (lo:Int):Sd->V->Addr->Prop
 | wh (o:Nat) (D:Addr) (ho:o<=7) (hD:H D=some (.lst ((lH o).map fun (i:Nat)=>V.int (lo+(i:Nat))))):Rs H lo .wh (.int (lo+o)) D
 | aX (v:V) (D:Addr) (hD:H D=some (.lst [])):Rs H lo .aX v D
 | pk (v:V) (x:Dd) (us:List V) (D:Addr) (h:Y6 H lo v x) (k:dB x) (hD:H D=some (.lst us)) (al:YN H lo us (dst x)):Rs H lo .pk v D
 | us (v:V) (x:Dd) (us:List V) (D:Addr) (h:Y6 H lo v x) (k:dB x) (hD:H D=some (.lst us)) (al:YN H lo us (dst x)):Rs H lo .us v D
 | aN (T:Addr) (us:List V) (xs:List Dd) (as:List Addr) (D:Addr) (hT:H T=some (.lst us)) (al:YN H lo us xs) (hD:H D=some (.lst (as.map V.ref))) (hl:xr H lo as (stL xs)):Rs H lo .aN (.ref T) D
theorem Rs.al {H:Hp} {lo:Int} {s:Sd} {v:V} {D:Addr} (h:Rs H lo s v D):∃ us,H D=some (.lst us):=by cases h<;>exact ⟨_,by assumption⟩
theorem Rs.go {H H':Hp} {lo:Int} {s:Sd} {v:V} {D:Addr} (h:Rs H lo s v D) (tp:Tp H H') (k:∀ o,H D=some o->H' D=some o) (hs:s ≠ .aN):Rs H' lo s v D:=by
 cases h with
 | wh o D ho hD=>exact .wh o D ho (k _ hD)
 | aX v D hD=>exact .aX v D (k _ hD)
 | pk v x us D h kx hD al=>exact .pk v x us D (h.tp tp) kx (k _ hD) (al.tp tp)
 | us v x us D h kx hD al=>exact .us v x us D (h.tp tp) kx (k _ hD) (al.tp tp)
 | aN=>exact absurd rfl hs
inductive Wd (H:Hp) (lo:Int):Sd->V->List (Sd×V)->Prop
 | wh (o:Nat) (ho:o<=7):Wd H lo .wh (.int (lo+o)) []
 | aX (b:Addr) (hb:H b=some (.tup [])):Wd H lo .aX (.ref b) []
 | pk (a:Addr) (u:V) (x:Dd) (ha:H a=some (.tup [.str (bx (dk x)),u])) (hd:Y6 H lo (.ref a) x) (k:dB x):Wd H lo .pk (.ref a) [(lE (dk x),u)]
 | us (v:V) (x:Dd) (hd:Y6 H lo v x) (k:dB x):Wd H lo .us v [(.pk,v)]
 | aN (D:Addr) (us:List V) (xs:List Dd) (h:H D=some (.lst us)) (al:YN H lo us xs) (hl:us.length<=100) (hk:∀ x∈xs,dB x):Wd H lo .aN (.ref D) (us.map fun u=>(.us,u))
theorem Wd.go {H H':Hp} {lo:Int} {s:Sd} {v:V} {L:List (Sd×V)} (h:Wd H lo s v L) (tp:Tp H H') (k:s = .aN->∀ T o,v = .ref T->H T=some o->H' T=some o):Wd H' lo s v L:=by
 cases h with
 | wh o ho=>exact .wh o ho
 | aX b hb=>exact .aX b (tp _ _ hb)
 | pk a u x ha hd kx=>exact .pk a u x (tp _ _ ha) (hd.tp tp) kx
 | us v x hd kx=>exact .us v x (hd.tp tp) kx
 | aN D us xs h al hl hk=>exact .aN D us xs (k rfl _ _ rfl h) (al.tp tp) hl hk
def xu (H:Hp) (lo:Int) (is_:List Addr) (L:List (Sd×V)):Prop:=is_.length=L.length/\∀ (i:Nat) a w,is_[i]?=some a->L[i]?=some w->Rs H lo w.1 w.2 a
inductive xG (P:Ρ) (w:Ω) (K:Ι) (C:Cs) (CL CS:Addr) (vs:List V) (H:Hp) (Q:VK) (E_:XK):Prop
 | mk (st ds ls dl d B:Addr) (lo:Int) (f:Bool->Option (Addr×List Addr)) (xs:Dx) (a:Addr) (s:Sd) (v:V) (I:Addr) (is_:List Addr) (L:List (Sd×V)) (h0:vs=[.ref st,.ref a,v,.ref I]) (h1:SI P w K C CL CS H st ds ls dl d (.ref B) lo f xs) (h2:Bo H lo B d f) (h3:Y7 H lo a s) (h4:Wd H lo s v L) (h5:H I=some (.lst (is_.map V.ref))) (h6:xu H lo is_ L) (h7:¬ mu d f I) (h8:(∀ a∈is_,¬ mu d f a)) (h9:∀ D H' f' xs',SI P w K C CL CS H' st ds ls dl d (.ref B) lo f' xs'->Go d H f H' f'->H D=none->¬ mu d f' D->Rs H' lo s v D->Q (.ref D) H')
theorem Oi:∀ i<2,∀ j<2,bx i=bx j->i=j:=by decide +kernel
theorem Y6.inj {H:Hp} {lo:Int} {v:V} {x y:Dd} (h:Y6 H lo v x) (k:Y6 H lo v y):x=y:=by
 obtain ⟨a,u,rfl,h1,-⟩:=id h.two;obtain ⟨a',u',e,h2,-⟩:=id k.two
 cases e
 rw [h1] at h2
 have e:=HO.tup.inj (Ε h2);have e1:=V.str.inj (hF e).1;have e2:=Oi _ (V9 x) _ (V9 y) e1
 cases x with
 | put o =>
  cases y with
  | put o' =>
   obtain ⟨c,ec,hc⟩:=h;obtain ⟨c',ec',hc'⟩:=k
   cases ec;cases ec'
   rw [hc] at hc'
   have e:=V.int.inj (hF (hF (HO.tup.inj (Ε hc'))).2).1;rw [show o=o' by omega]
  | ask=>cases e2
 | ask=>cases y<;>first | rfl | cases e2
theorem Oj:∀ f o,(hal f o).length<=f
 | 0,_=>Ν _
 | f+1,o=>by
  rw [hal]
  split
  ·exact ar _
  ·rw [ai];have:=Oj f (o / 2);omega
theorem Ol (o:Nat):(lH o).length<=20:=by rw [lH,List.length_reverse];exact Oj 20 o
def Uu (x:Dd):List Dd:=match x with | .put o=>(lH o).map Dd.put | _=>[]
theorem Er (x:Dd):dst x=wZ x++Uu x:=rfl
theorem UR (x:Dd):(dst x).length<=100:=by
 rw [Er,Κ];have h1:(wZ x).length<=3:=by
  unfold wZ
  split
  ·simp
  ·have:=V9 x;simp;omega
 have h2:(Uu x).length<=20:=by
  cases x with
  | put o=>rw [Uu,Θ];exact Ol o
  | ask=>simp [Uu]
 omega
theorem Rs.mark {H:Hp} {lo:Int} {a' D:Addr} {u:V} {x:Dd} (ha:H a'=some (.tup [.str (bx (dk x)),u])) (hd:Y6 H lo (.ref a') x) (h:Rs H lo (lE (dk x)) u D):∃ us,H D=some (.lst us)/\us.length<=20/\∀ H' (as:List Addr),as.length=us.length->(∀ (j:Nat) a t,as[j]?=some a->(us.map fun u=>[V.str (bx (dk x)),u])[j]?=some t->H' a=some (.tup t))->YN H' lo (as.map V.ref) (Uu x):=by
 cases x with
 | put o =>
  obtain ⟨c,ec,hc⟩:=hd
  cases ec
  rw [ha] at hc
  have e:=(hF (hF (HO.tup.inj (Ε hc))).2).1;subst e;generalize hv:V.int (lo+(o:Int))=v at h
  cases h with
  | wh o' D ho hD =>
   have:o=o':=by have:=V.int.inj hv;omega
   subst this;refine ⟨_,hD,by rw [Θ];exact Ol o,fun H' as hl hat=>⟨by rw [Θ,hl,Θ,Uu,Θ],fun i v x e1 e2=>?_⟩⟩;rw [Υ] at e1
   obtain ⟨c,hc,rfl⟩:=ο.mp e1;rw [Uu,Υ] at e2
   obtain ⟨j,hj,rfl⟩:=ο.mp e2;exact ⟨c,rfl,hat i c _ hc (by rw [Υ,Υ,hj];rfl)⟩
 | ask =>
  have h:Rs H lo .aX u D:=h
  cases h with
  | aX _ _ hD=>exact ⟨_,hD,by simp,fun H' as hl _=>by cases de.mp hl;exact ⟨rfl,fun i u x h=>by cases h⟩⟩
theorem Es {α:Type} {P:Nat->α->Prop}:∀ n,(∀ i,i<n->∃ s,P i s)->∃ ss:List α,ss.length=n/\∀ (i:Nat) s,ss[i]?=some s->P i s
 | 0,_=>⟨[],rfl,fun i s h=>by cases h⟩
 | n+1,h=>by
  obtain ⟨ss,h1,h2⟩:=Es n fun i hi=>h i (by omega)
  obtain ⟨s,hs⟩:=h n (by omega);refine ⟨ss++[s],by rw [Κ,h1];rfl,fun i t e=>?_⟩;by_cases c:i<ss.length
  ·rw [υ c] at e;exact h2 i t e
  ·have hi:i=ss.length:=by
    have:=(Η.mp e).1;rw [Κ,ω] at this
    omega
   subst hi;rw [ac (Ν _),eJ] at e
   cases Ε e
   rw [h1];exact hs
theorem xu.all {H:Hp} {lo:Int} {is_:List Addr} {us:List V} {xs:List Dd} (ad:YN H lo us xs) (inn:xu H lo is_ (us.map fun u=>(.us,u))):is_.length=xs.length/\∃ ss,NT H is_ ss/\F2 (F2 (Y6 H lo)) ss (xs.map dst):=by
 have l:=ad.1;have il:is_.length=xs.length:=by rw [inn.1,Θ];omega
 obtain ⟨ss,h1,h3⟩:=Es (P:=fun i s=>∃ a x,is_[i]?=some a/\xs[i]?=some x/\H a=some (.lst s)/\F2 (Y6 H lo) s (dst x)) xs.length fun i hi=>by
  have e1:is_[i]?=some (is_[i]'(by omega)):=Λ _;have e2:xs[i]?=some (xs[i]'hi):=Λ _;have e3:us[i]?=some (us[i]'(by omega)):=Λ _;generalize is_[i]'(by omega)=a at e1;generalize xs[i]'hi=x at e2;generalize us[i]'(by omega)=u at e3;have:=inn.2 i a (.us,u) e1 (by rw [Υ,e3];rfl);have this:Rs H lo .us u a:=this
  cases this with
  | us _ y vs _ hy ky hD al =>
   cases hy.inj (ad.2 i u x e3 e2)
   exact ⟨vs,a,_,e1,e2,hD,al.f2⟩
 refine ⟨il,ss,⟨by omega,fun i a s e1 e2=>?_⟩,F2.of (by rw [Θ,h1]) fun i s L e1 e2=>?_⟩
 ·obtain ⟨a',x,k1,k2,k3,k4⟩:=h3 i s e2
  rw [e1] at k1
  cases Ε k1
  exact k3
 ·obtain ⟨a',x,k1,k2,k3,k4⟩:=h3 i s e1
  rw [Υ,k2] at e2
  cases Ε e2
  exact k4
theorem Et {α:Type} (us:List α):(wo us).length=us.length:=by unfold wo;rw [Θ,List.length_range]
theorem Z3s {k:Nat} {Z7 Z1 Z2 Z6 Z0:Addr} (R:g.bw Z6 "steps_by" "Stepper.steps_by" Df ["self","shape","value","inner"]) (lR:g.Fn k "whole_steps" ["low","value"] (wW g.K)) (Z4F:g.Fn k "without_each" ["things"] (wX g.K)) (Om:g.Fn k "with_each_step" ["things","inner"] (sO g.K)) (Eo:g.Fn k "things_at_use" ["book","use","shape","value"] (j7 g.K 3)) (Z2l:g.Me k Z6 "leasts_ahead" ["self","shape","value"] (xg g.P g.w g.K (Cs.mk Z0 Z1 Z2) Z7 Z6)) (aP:g.mg "list"=none) (Zf:g.mg "tuple"=none) (Zk:Cls g.K Z6) (Ze:Yo g.K Z6 "book") (Zc:Yo g.K Z6 "lister"):g.Me (k+1) Z6 "steps_by" ["self","shape","value","inner"] (xG g.P g.w g.K (Cs.mk Z0 Z1 Z2) Z7 Z6):=by
 refine R.me Dg (fun vs H Q E h=>by obtain ⟨st,ds,ls,dl,d,B,lo,f,xs,a,s,v,I,is_,L,rfl,si,bo,hS,wi,hI,inn,nI,nis,q⟩:=h;rfl) fun f_ cdv A outer s H vs Q E hr h=>?_
 obtain ⟨st,ds,ls,dl,d,B,lo,f,xs,a,s,v,I,is_,L,rfl,si,bo,hS,wi,hI,inn,nI,nis,q⟩:=h;refine ⟨_,(@Yd _ _ _ _ _ (@Yv _ _ (4) _ _ _ _ Dg.nd rfl (.inr rfl) (@Yu _ _ _ _ _ _ _ Yw (pv 1) Yh (fun _ _=>rfl)) (by rfl) (by first | exact .inl rfl | exact .inr rfl | assumption)) (@Yd _ _ _ _ _ (@Yy _ _ _ _ _ _ _ _ (@Yt _ _ _ _ _ _ _ _ YQ (pv 4) Yx (Yq _)) (@Yf _ _ _ (@Yl _ _ _ _ (@Yr _ _ _ _ _ _ _ _ _ _ _ _ lR hr (@Ya _ _ _ _ _ (@Yu _ _ _ _ _ _ _ Yw (pv 1) Yh (fun _ _=>rfl)) (@Ya _ _ _ _ _ (pv 2) Yc (by rfl)) (by rfl)) (by omega) (by rfl) (by rfl) (by decide) (by rfl) (by rfl)))) Yp) (@Yd _ _ _ _ _ (@Yy _ _ _ _ _ _ _ _ (@Yt _ _ _ _ _ _ _ _ YQ (pv 4) Yx (Yq _)) (@Yf _ _ _ YI) Yp) (@Yd _ _ _ _ _ (@Yy _ _ _ _ _ _ _ _ (@Yt _ _ _ _ _ _ _ _ YQ (pv 4) Yx (Yq _)) (@Yf _ _ _ (@Yl _ _ _ _ (@XO _ _ _ _ _ _ _ ([none]) ((["things"]:List Str)) _ (YW 0) _ _ (.own .nil) rfl (@Xe _ _ _ _ (@Yr _ _ _ _ _ _ _ _ _ _ _ _ Om hr (@Ya _ _ _ _ _ (@Wz _ _ _ _ _ _ _ _ _ _ aP VO (@Ya _ _ _ _ _ (pv 2) Yc (by rfl)) (by decide +kernel) (by rfl) (by rfl) (by decide) (by decide) (by rfl) (by rfl)) (@Ya _ _ _ _ _ (pv 3) Yc (by rfl)) (by rfl)) (by omega) (by rfl) (by rfl) (by decide) (by rfl) (by rfl))) (fun cl C s₀ H₀ fp pn=>(@YD _ _ (0) _ (show bu (["things"]:List Str) by decide +kernel) rfl (.inl rfl) (.inr rfl))) (fun cl C s₀ H₀ fp pn=>Xp) (fun cl C s₀ H₀ fp pn=>(@Wz _ _ _ _ _ _ _ _ _ _ Zf (U7 (K:=g.K)) (@Ya _ _ _ _ _ (pv 0) Yc (by rfl)) (by decide +kernel) (by rfl) (by rfl) (by decide) (by decide) (by rfl) (by rfl))) (by intro x hx;simp at hx) (by rfl) (by decide) (by decide +kernel) (by intro _;rfl)))) Yp) (@Yd _ _ _ _ _ (@Yy _ _ _ _ _ _ _ _ (@Yt _ _ _ _ _ _ _ _ YQ (pv 4) Yx (Yq _)) (@Yf _ _ _ YI) Yp) (@Yd _ _ _ _ _ (@Yy _ _ _ _ _ _ _ _ (@Yt _ _ _ _ _ _ _ _ YQ (pv 4) Yx (Yq _)) (@Yf _ _ _ (@Yl _ _ _ _ (@Ys _ _ _ _ _ _ _ _ Xu (@Wy _ _ _ _ _ _ _ _ _ _ _ _ _ _ _ _ Z2l Zk hr (pv 0) (@Ya _ _ _ _ _ (pv 1) (@Ya _ _ _ _ _ (pv 2) Yc (by rfl)) (by rfl)) (by omega) (by rfl) (by rfl) (by rfl) (by rfl)) (@XO _ _ _ _ _ _ _ ([none,some 2]) ((["step","value"]:List Str)) _ (YW 0) _ _ (.own (.cap (i:=2) rfl rfl (by first | exact .inl rfl | exact .inr rfl) .nil)) rfl (@Xe _ _ _ _ (@Yu _ _ _ _ _ _ _ Xo (pv 3) Yh (fun _ _=>rfl))) (fun cl C s₀ H₀ fp pn=>(@YD _ _ (0) _ (show bu (["step","value"]:List Str) by decide +kernel) rfl (.inl rfl) (.inr rfl))) (fun cl C s₀ H₀ fp pn=>Xp) (fun cl C s₀ H₀ fp pn=>(@YR _ _ _ _ _ (@Ya _ _ _ _ _ (@Yu _ _ _ _ _ _ _ (UZ (K:=g.K)) (pv 1) Yh (fun _ _=>rfl)) (@Ya _ _ _ _ _ (pv 0) Yc (by rfl)) (by rfl)))) (by intro x hx;simp at hx;first | (subst hx;exact .inl rfl) | (rcases hx with rfl | rfl<;>exact .inl rfl) | (rcases hx with rfl | rfl | rfl<;>exact .inl rfl) | (rcases hx with rfl | rfl | rfl | rfl<;>exact .inl rfl) | (rcases hx with rfl | rfl | rfl | rfl | rfl<;>exact .inl rfl)) (by rfl) (by decide) (by decide +kernel) (by intro _;rfl))))) Yp) (@Yd _ _ _ _ _ (@Yy _ _ _ _ _ _ _ _ (@Yt _ _ _ _ _ _ _ _ YQ (pv 4) Yx (Yq _)) (@Yf _ _ _ (@Yl _ _ _ _ (@Ys _ _ _ _ _ _ _ _ Xu (@Yr _ _ _ _ _ _ _ _ _ _ _ _ Eo hr (@Ya _ _ _ _ _ (@Y4 _ _ _ _ _ (pv 0) rfl) (@Ya _ _ _ _ _ (pv 1) (@Ya _ _ _ _ _ (pv 1) (@Ya _ _ _ _ _ (pv 2) Yc (by rfl)) (by rfl)) (by rfl)) (by rfl)) (by omega) (by rfl) (by rfl) (by decide) (by rfl) (by rfl)) (@Yu _ _ _ _ _ _ _ Xo (pv 3) Yh (fun _ _=>rfl))))) Yp) (@Yd _ _ _ _ _ (@Yv _ _ (5) _ _ _ _ Dg.nd rfl (.inl rfl) (@Ys _ _ _ _ _ _ _ _ Xu (@Yr _ _ _ _ _ _ _ _ _ _ _ _ Z4F hr (@Ya _ _ _ _ _ (pv 2) Yc (by rfl)) (by omega) (by rfl) (by rfl) (by decide) (by rfl) (by rfl)) (@Yr _ _ _ _ _ _ _ _ _ _ _ _ Om hr (@Ya _ _ _ _ _ (pv 2) (@Ya _ _ _ _ _ (pv 3) Yc (by rfl)) (by rfl)) (by omega) (by rfl) (by rfl) (by decide) (by rfl) (by rfl))) (by rfl) (by first | exact .inl rfl | exact .inr rfl | assumption)) (@Yf _ _ _ (@Yl _ _ _ _ (@XO _ _ _ _ _ _ _ ([none,some 4,some 1,some 0]) ((["step","kind","shape","self"]:List Str)) _ (YW 0) _ _ (.own (.cap (i:=4) rfl rfl (by first | exact .inl rfl | exact .inr rfl) (.cap (i:=1) rfl rfl (by first | exact .inl rfl | exact .inr rfl) (.cap (i:=0) rfl rfl (by first | exact .inl rfl | exact .inr rfl) .nil)))) rfl (@Xe _ _ _ _ (pv 5)) (fun cl C s₀ H₀ fp pn=>(@YD _ _ (0) _ (show bu (["step","kind","shape","self"]:List Str) by decide +kernel) rfl (.inl rfl) (.inr rfl))) (fun cl C s₀ H₀ fp pn=>(@Kc _ _ _ (@XN _ _ _ _ _ _ _ (@Yt _ _ _ _ _ _ _ _ YQ (pv 1) Yx (Yq _)) (@WC _ _ _ _ Yd1)).pt)) (fun cl C s₀ H₀ fp pn=>(pv 0)) (by intro x hx;simp at hx;first | (subst hx;exact .inl rfl) | (rcases hx with rfl | rfl<;>exact .inl rfl) | (rcases hx with rfl | rfl | rfl<;>exact .inl rfl) | (rcases hx with rfl | rfl | rfl | rfl<;>exact .inl rfl) | (rcases hx with rfl | rfl | rfl | rfl | rfl<;>exact .inl rfl)) (by rfl) (by decide) (by decide +kernel) (by intro _;rfl)))))))))))),?_⟩
 cases wi with
 | wh o ho =>
  have hS:H a=some (.tup [.str "whole",.int lo,.int (lo+7)]):=hS;refine Ym fun R rr=>?_
  walk_at "rd";refine ⟨_,aq.of hS,_,Yk (j:=0) rfl,rr _ _ (d9 rfl rfl ?_)⟩;walk_at "rd";exact ⟨_,aq.of hS,_,Yk (j:=1) rfl,lo,o,rfl,ho,fun D H' sm gD hD=>q D H' f xs (si.same sm) (Wb sm) gD (si.li.new gD) (.wh o D ho hD)⟩
 | aX b hb =>
  obtain ⟨c,h1,h2⟩:∃ b,H a=some (.tup [.str "row",.ref b])/\H b=some (.tup []):=hS;refine Ym fun R rr=>?_
  walk_at "rd";refine ⟨_,aq.of h1,_,Yk (j:=0) rfl,rr _ _ (aR rfl (by decide +kernel) (aR rfl (by decide +kernel) (d9 rfl rfl ?_)))⟩;walk_at "rd";have il:is_=[]:=de.mp inn.1;subst il;refine VS (K:=g.K) (xs:=[]) [] (fun R r=>?_) rfl (by decide) (fun i x y H' hx=>by cases hx) ?_
  ·walk_at "rd"
   refine ⟨_,.inr (aq.of hb),fun l gl=>?_⟩;have sl:=Yg.aj gl (.lst []);refine ⟨l,I,[],[],[],rfl,Yb,by decide,sl _ _ hI,by decide,⟨rfl,fun i a s e=>by cases e⟩,(fun s h=>by cases h),fun D as H' sm gD hD _ nl=>?_⟩;have:as=[]:=de.mp nl.len;subst this;exact r D H' (sl.trans sm) (aA.of hD)
  ·intro D H' gD sm hD
   exact q D H' f xs (si.same sm) (Wb sm) gD (si.li.new gD) (.aX _ D hD)
 | pk a' u x ha hd hk =>
  obtain ⟨b',c0,c1,p0,p1,e0,h1,hP⟩:=id hS;refine Ym fun R rr=>?_
  walk_at "rd";refine ⟨_,aq.of h1,_,Yk (j:=0) rfl,rr _ _ (aR rfl (by decide +kernel) (aR rfl (by decide +kernel) (aR rfl (by decide +kernel) (aR rfl (by decide +kernel) (d9 rfl rfl ?_)))))⟩;walk_at "rd";refine ⟨_,_,si.iH,QT _ _ (by decide +kernel) (by decide +kernel),st,ds,ls,dl,d,B,lo,f,xs,a,.ref a',x,rfl,si,bo,hS,hd,hk,fun D us H' f' xs' dR go gD nD hD al=>?_⟩;obtain ⟨a0,rfl⟩:∃ a0,is_=[a0]:=List.length_eq_one_iff.mp inn.1;have rs:Rs H lo (lE (dk x)) u a0:=inn.2 0 a0 _ rfl rfl;obtain ⟨Oo,hu0,Ed,hmk⟩:=rs.mark ha hd;have tp:=si.li.tp go;have hI':=go.fr _ _ nI hI;have Sq:=go.fr _ _ (nis a0 (.head _)) hu0;have ha':=tp _ _ ha;refine Q7 (K:=g.K) (xs:=Oo) (Oo.map fun u=>[.str (bx (dk x)),u]) (fun R r=>?_) (by simp) (by omega) ?_ ?_
  ·walk_at "rd"
   exact ⟨_,aA.of hI',_,Yk (j:=0) rfl,r a0 H' (.refl _) (aA.of Sq)⟩
  ·intro i y t H2 hy ht sm R r
   rw [Υ,hy] at ht
   cases Ε ht
   walk_at "rd";exact ⟨_,aq.of (sm _ _ ha'),_,Yk (j:=0) rfl,few (by decide),fun X gX=>r X _ (.aj gX _) Yb⟩
  ·intro D2 as H2 gD2 sm hD2 hal hat
   have hl:=al.1;have Eu:=UR x;rw [Er,Κ,<- hl] at Eu
   refine ⟨D,rfl,D2,rfl,_,sm _ _ hD,_,hD2,few (by rw [Θ];omega),fun X gX=>?_⟩;have sX:=Yg.aj gX (.lst (us++as.map V.ref));have s2:=sm.trans sX;have tp2:=tp.trans (YX (Yn s2));have gX':H X=none:=by
    cases e:H X with
    | none=>rfl
    | some o =>
     by_cases c:mu d f X
     ·have:=(si.li.jz c).1
      have h3:=(dR.li.jz (x:=X) (by
       rcases c with c | ⟨k,p,ms,e1,e2⟩
       ·exact .inl c
       ·exact .inr ⟨k,p,ms,go.up _ _ e1,e2⟩)).1
      obtain ⟨o',h3⟩:=h3;rw [sm _ _ h3] at gX;cases gX
     ·rw [sm _ _ (go.fr _ _ c e)] at gX;cases gX
   refine q X _ f' xs' (dR.same s2) (go.trans (Wb s2)) gX' (dR.li.new (sm.free gX)) (.pk _ x _ X (hd.tp tp2) hk Yb ?_);rw [Er];refine ((al.tp (YX (Yn s2))).f2.app (hmk _ as hal fun j c t e1 e2=>sX _ _ (hat j c t e1 e2)).f2).al
 | us v x hd hk =>
  have hU:H a=some (.tup [.str "use",.str "deed"]):=hS;refine Ym fun R rr=>?_
  walk_at "rd";refine ⟨_,aq.of hU,_,Yk (j:=0) rfl,rr _ _ (aR rfl (by decide +kernel) (aR rfl (by decide +kernel) (aR rfl (by decide +kernel) (aR rfl (by decide +kernel) (aR rfl (by decide +kernel) (d9 rfl rfl ?_))))))⟩;walk_at "rd";obtain ⟨a0,rfl⟩:∃ a0,is_=[a0]:=List.length_eq_one_iff.mp inn.1;have rs:Rs H lo .pk v a0:=inn.2 0 a0 _ rfl rfl;refine ⟨_,_,_,si.iH,Zk,Ze,_,Qg _ _,B,a,lo,a,.us,v,_,_,rfl,bo.bk,hS,hS,.us v (some (dY x)) (hd.vx hk),rfl,by decide,by decide,fun D H1 s1 gD hD=>⟨_,aA.of (s1 _ _ hI),_,Yk (j:=0) rfl,D,rfl,a0,rfl,?_⟩⟩
  cases rs with
  | pk _ y us _ hy ky h0 al =>
   cases hy.inj hd
   have Eu:=UR x;rw [<- al.1] at Eu
   refine ⟨_,hD,_,s1 _ _ h0,few (by simp only [fk];omega),fun X gX=>?_⟩;have sX:=Yg.aj gX (.lst us);have s2:=s1.trans sX;rw [List.nil_append];have tp:=YX (Yn s2);exact q X _ f xs (si.same s2) (Wb s2) (s1.free gX) (si.li.new (s1.free gX)) (.us v x us X (hd.tp tp) hk Yb (al.tp tp))
 | aN T us xs' hT ad hl hk =>
  obtain ⟨e,h0,h1⟩:=id hS;have l:=ad.1;refine Ym fun R rr=>?_
  walk_at "rd";refine ⟨_,aq.of h0,_,Yk (j:=0) rfl,rr _ _ (aR rfl (by decide +kernel) (aR rfl (by decide +kernel) (aR rfl (by decide +kernel) (aR rfl (by decide +kernel) (aR rfl (by decide +kernel) (aR rfl (by decide +kernel) (Ym fun R rr=>?_)))))))⟩;walk_at "rd";obtain ⟨il,ss,hss,f2⟩:=inn.all ad;have hsl:∀ s∈ss,s.length<=100:=fun s hs=>by
   obtain ⟨i,hi⟩:=bc hs;have hi':=(Η.mp hi).1;have hx:(xs'.map dst)[i]?=some ((xs'.map dst)[i]'(by have:=f2.len;omega)):=Λ _;rw [(f2.get i s _ hi hx).len,List.getElem_map];exact UR _
  refine ⟨T,us,rfl,hT,by omega,fun D1 as1 H1 s1 gD1 hD1 jm=>⟨T,I,us,is_,ss,rfl,s1 _ _ hT,by omega,s1 _ _ hI,by omega,⟨hss.1,fun i c z e1 e2=>s1 _ _ (hss.2 i c z e1 e2)⟩,hsl,fun D2 as2 H2 s2 gD2 hD2 _ ig=>⟨D1,rfl,D2,rfl,_,s2 _ _ hD1,_,hD2,few ?_,fun p gp=>rr _ _ ?_⟩⟩⟩
  ·have h3:=UQ (us:=us) hsl ss.length (Ν _)
   have h4:=ig.len;have h5:=jm.len;rw [Et] at h5
   have h6:=hss.1;unfold wi at h4;rw [Θ,Θ];omega
  walk_at "rd";have sp:=Yg.aj gp (.lst (as1.map V.ref++as2.map V.ref));have s3:=(s1.trans s2).trans sp;refine YdN (K:=g.K) (xs:=as1.map V.ref++as2.map V.ref) (fun _=>true) (fun v=>v) (fun R r=>by walk_at "rd";exact r p _ (.refl _) (aA.of Yb)) ?_ ?_ ?_ ?_
  ·have h3:=UQ (us:=us) hsl ss.length (Ν _)
   have h4:=ig.len;have h5:=jm.len;rw [Et] at h5
   have h6:=hss.1;unfold wi at h4;rw [Κ,Θ,Θ];omega
  ·intro x H' hx sm R r
   walk_at "rd";exact r H' (.refl _)
  ·intro x H' hx _ sm R r
   walk_at "rd";exact r H' (.refl _)
  ·intro D H' gD sm hD
   have s4:=s3.trans sm;have Oq:H D=none:=s3.free gD;rw [List.filter_eq_self.mpr (fun _ _=>rfl),List.map_id',<- am] at hD
   have tp:=YX (Yn s4);have aD:YN H' lo us xs':=ad.tp tp;refine q D H' f xs (si.same s4) (Wb s4) Oq (si.li.new Oq) (.aN T us xs' (as1++as2) D (s4 _ _ hT) aD hD ?_);have k1:Nl H H' as1 (wo us):=⟨jm.len,jm.nw,jm.nd,fun i c z e1 e2=>sm _ _ (sp _ _ (s2 _ _ (jm.at_ i c z e1 e2)))⟩;have k2:Nl H1 H' as2 (wi us ss):=⟨ig.len,ig.nw,ig.nd,fun i c z e1 e2=>sm _ _ (sp _ _ (ig.at_ i c z e1 e2))⟩;exact (k1.all aD.f2.wo).app (k2.all (aD.f2.wi (f2.imp fun _ _ h=>h.imp fun _ _ h=>h.tp tp)))
theorem Vx.mJ {H:Hp} {lo:Int} {v:V} {r:Option Nat} (h:Vx H lo .pk v r) (hr:r.isSome=true):∃ x,Y6 H lo v x/\dB x/\∀ a m u,v = .ref a->H a=some (.tup [.str (bx m),u])->m<2->m=dk x:=by
 have uq:∀ {a:Addr} {m m':Nat} {u u':V},m<2->m'<2->H a=some (.tup [.str (bx m),u])->H a=some (.tup [.str (bx m'),u'])->m'=m:=fun h1 h2 e1 e2=>by
  rw [e1] at e2
  exact (Oi _ h1 _ h2 (V.str.inj (hF (HO.tup.inj (Ε e2))).1)).symm
 cases h with
 | gF v h=>cases hr
 | pk a m u r hm h hu =>
  match m,hm with
  | 0,_ =>
   have hu:Vx H lo .aX u r:=hu
   cases hu with
   | aX b hb=>exact ⟨.ask,⟨a,b,rfl,h,hb⟩,trivial,fun a' m' u' e h' hm'=>by cases e;exact uq (by decide) hm' h h'⟩
   | jH b hb=>cases hr
  | 1,_ =>
   have hu:Vx H lo .wh u r:=hu
   cases hu with
   | wh o ho=>exact ⟨.put o,⟨a,rfl,h⟩,ho,fun a' m' u' e h' hm'=>by cases e;exact uq (V9 (.put o)) hm' h h'⟩
   | jl i hi=>cases hr
   | jG z=>cases hr
theorem VC {r:Option Nat} (h:(r.map (1+·)).isSome=true):r.isSome=true:=by cases r with
 | none=>cases h
 | some n=>rfl
theorem Wi.wd {H:Hp} {lo:Int} {s:Sd} {v:V} {r:Option Nat} {L:List (Sd×V×Option Nat)} (h:Wi H lo s v r L) (hr:r.isSome=true):Wd H lo s v (L.map fun w=>(w.1,w.2.1)):=by
 have has:=h.all_some hr
 cases h with
 | wh o ho=>exact .wh o ho
 | aX b hb=>exact .aX b hb
 | pk a m u r hm h hu =>
  obtain ⟨x,hx,kx,hk⟩:=Vx.mJ (.pk a m u r hm h hu) hr;have:=hk a m u rfl h hm;subst this;exact .pk a u x h hx kx
 | us v r h =>
  obtain ⟨x,hx,kx,_⟩:=h.mJ (VC hr);exact .us v x hx kx
 | aN D us rs hD l hl h2 r hr' =>
  obtain ⟨xs,x1,x2⟩:=Es (P:=fun i x=>∃ u,us[i]?=some u/\Y6 H lo u x/\dB x) us.length fun i hi=>by
   have e3:us[i]?=some (us[i]'hi):=Λ _;have e4:rs[i]?=some (rs[i]'(by omega)):=Λ _;have hv:=h2 i _ _ e3 e4;have hs:=has (.us,us[i]'hi,rs[i]'(by omega)) (ae.mpr ⟨(us[i]'hi,rs[i]'(by omega)),List.mem_iff_getElem.mpr ⟨i,by rw [List.length_zip];omega,by rw [List.getElem_zip]⟩,rfl⟩);have hs:(rs[i]'(by omega)).isSome=true:=hs;generalize rs[i]'(by omega)=r0 at hv hs;generalize us[i]'hi=u at e3 hv
   cases hv with
   | us _ r1 h =>
    obtain ⟨x,hx,kx,_⟩:=h.mJ (VC hs);exact ⟨x,u,e3,hx,kx⟩
  have e:((us.zip rs).map fun w=>((.us,w.1,w.2):Sd×V×Option Nat)).map (fun w=>(w.1,w.2.1))=us.map fun u=>(.us,u):=by
   rw [List.map_map];clear x1 x2 has hr' h2 hl hD
   induction us generalizing rs with
   | nil=>rfl
   | cons u us ih =>
    cases rs with
    | nil=>cases l
    | cons r rs=>exact congrArg (_::·) (ih rs (fN l))
  rw [e];refine .aN D us xs hD ⟨x1.symm,fun i u x e1 e2=>?_⟩ hl fun x hx=>?_
  ·obtain ⟨u',e3,hx,_⟩:=x2 i x e2
   rw [e1] at e3
   cases Ε e3
   exact hx
  ·obtain ⟨i,hi⟩:=bc hx
   obtain ⟨u',_,_,kx⟩:=x2 i x hi;exact kx
theorem Vx.tp {H H':Hp} (k:Tp H H') {lo:Int} {s:Sd} {v:V} {r:Option Nat} (h:Vx H lo s v r):r.isSome=true->s ≠ .aN->Vx H' lo s v r:=by
 induction h with
 | wh o h=>exact fun _ _ => .wh o h
 | jl i h=>exact fun h=>by cases h
 | jG z=>exact fun h=>by cases h
 | aX b h=>exact fun _ _ => .aX b (k _ _ h)
 | jH b h=>exact fun h=>by cases h
 | gF v h=>exact fun h=>by cases h
 | pk a m u r hm h _ ih=>exact fun hr _ => .pk a m u r hm (k _ _ h) (ih hr (by
  match m,hm with
  | 0,_=>intro z;cases z
  | 1,_=>intro z;cases z))
 | us v r _ ih=>exact fun hr _ => .us v r (ih (VC hr) (by intro z;cases z))
 | dF v h=>exact fun h=>by cases h
 | aN D us rs h l hl _ r hr ih=>exact fun _ h=>absurd rfl h
theorem Go.free {P:Ρ} {w:Ω} {K:Ι} {C:Cs} {CL:Addr} {H H':Hp} {ls dl d:Addr} {b:V} {lo:Int} {f f':Bool->Option (Addr×List Addr)} {xs:Dx} (go:Go d H f H' f') (L:Li P w K C CL H' ls dl d b lo f' xs) {x:Addr} (h:H' x=none):H x=none:=by
 cases e:H x with
 | none=>rfl
 | some o =>
  by_cases c:mu d f x
  ·obtain ⟨o',h3⟩:=(L.jz (x:=x) (by
    rcases c with c | ⟨k,p,ms,e1,e2⟩
    ·exact .inl c
    ·exact .inr ⟨k,p,ms,go.up _ _ e1,e2⟩)).1
   rw [h] at h3;cases h3
  ·rw [go.fr _ _ c e] at h;cases h
inductive mK (P:Ρ) (w:Ω) (K:Ι) (C:Cs) (CL CS:Addr) (m:Nat) (vs:List V) (H:Hp) (Q:VK) (E_:XK):Prop
 | mk (st ds ls dl d B:Addr) (lo:Int) (f:Bool->Option (Addr×List Addr)) (xs:Dx) (a:Addr) (s:Sd) (v:V) (n:Nat) (h0:vs=[.ref st,.ref a,v]) (h1:SI P w K C CL CS H st ds ls dl d (.ref B) lo f xs) (h2:Bo H lo B d f) (h3:Y7 H lo a s) (h4:Vx H lo s v (some n)) (h5:jg s<=m) (h6:(∀ T,s = .aN->v = .ref T->¬ mu d f T)) (h7:∀ D H' f' xs',SI P w K C CL CS H' st ds ls dl d (.ref B) lo f' xs'->Go d H f H' f'->H D=none->¬ mu d f' D->Rs H' lo s v D->Q (.ref D) H')
theorem Jc {P:Ρ} {w:Ω} {K:Ι} {C:Cs} {CL CS:Addr} {vs:List V} {H:Hp} {Q:VK} {E:XK} (h:mK P w K C CL CS 0 vs H Q E):False:=by
 obtain ⟨st,ds,ls,dl,d,B,lo,f,xs,a,s,v,n,_,_,_,_,_,h,_⟩:=h
 cases s<;>simp [jg] at h
inductive SfV (P:Ρ) (w:Ω) (K:Ι) (C:Cs) (CL CS:Addr) (H:Hp) (st ds ls dl d:Addr) (B:Addr) (lo:Int) (f:Bool->Option (Addr×List Addr)) (a:Addr) (v:V) (I l:Addr) (ts:List Addr) (L:List (Sd×V×Option Nat)) (i:Nat) (σ:St) (H':Hp):Prop
 | mk (o4 o5:Option V) (is_:List Addr) (f':Bool->Option (Addr×List Addr)) (xs:Dx) (e:σ=[some (.ref st),some (.ref a),some v,some (.ref I),o4,o5]) (si:SI P w K C CL CS H' st ds ls dl d (.ref B) lo f' xs) (go:Go d H f H' f') (hI:H' I=some (.lst (is_.map V.ref))) (nI:¬ mu d f' I) (Ii:I∉is_) (nis:∀ a∈is_,¬ mu d f' a) (inn:xu H' lo is_ ((L.take i).map fun w=>(w.1,w.2.1))) (hl:H' l=some (.lst (ts.map V.ref))) (nl:¬ mu d f' l) (pr:Ut H' lo ts L)
theorem ZP {k:Nat} {Z7 Z1 Z2 Z6 Z0:Addr} (R:g.bw Z6 "steps_from" "Stepper.steps_from" Dc ["self","shape","value"]) (ZX:g.Fn k "things_within" ["book","shape","value"] (wg g.K)) (Ew:g.Me k Z6 "steps_from" ["self","shape","value"] (mK g.P g.w g.K (Cs.mk Z0 Z1 Z2) Z7 Z6 m)) (Z3P:g.Me k Z6 "steps_by" ["self","shape","value","inner"] (xG g.P g.w g.K (Cs.mk Z0 Z1 Z2) Z7 Z6)) (Zk:Cls g.K Z6) (Ze:Yo g.K Z6 "book") (Zc:Yo g.K Z6 "lister"):g.Me (k+1) Z6 "steps_from" ["self","shape","value"] (mK g.P g.w g.K (Cs.mk Z0 Z1 Z2) Z7 Z6 (m+1)):=by
 refine R.me ZN (fun vs H Q E h=>by obtain ⟨st,ds,ls,dl,d,B,lo,f,xs,a,s,v,n,rfl,si,bo,hS,hv,hm,nT,q⟩:=h;rfl) fun f_ cdv A outer s H vs Q E hr h=>?_
 obtain ⟨st,ds,ls,dl,d,B,lo,f,xs,a,s,v,n,rfl,si,bo,hS,hv,hm,nT,q⟩:=h;refine ⟨_,(@Yd _ _ _ _ _ (@Yv _ _ (3) _ _ _ _ ZN.nd rfl (.inl rfl) (@Y0 _ _ _ _ Yc) (by rfl) (by first | exact .inl rfl | exact .inr rfl | assumption)) (@Yd _ _ _ _ _ (@XE _ _ _ _ _ _ _ _ av rfl (@Xe _ _ _ _ (@Yr _ _ _ _ _ _ _ _ _ _ _ _ ZX hr (@Ya _ _ _ _ _ (@Y4 _ _ _ _ _ (pv 0) rfl) (@Ya _ _ _ _ _ (pv 1) (@Ya _ _ _ _ _ (pv 2) Yc (by rfl)) (by rfl)) (by rfl)) (by omega) (by rfl) (by rfl) (by decide) (by rfl) (by rfl))) (@WD _ _ _ _ _ (2) rfl (@Xb _ _ _ _ _ (@YD _ _ (4) _ ZN.nd rfl (.inl rfl) (by first | exact .inl rfl | exact .inr rfl | assumption)) (@Xb _ _ _ _ _ (@YD _ _ (5) _ ZN.nd rfl (.inl rfl) (by first | exact .inl rfl | exact .inr rfl | assumption)) X9 (by rfl)) (by rfl)) (by rfl) (by rfl)) (@Yf _ _ _ (@Xc _ _ _ _ (@X4 _ _ _ _ _ _ _ _ _ _ _ _ bt bE ci Xv (pv 3) (@Ya _ _ _ _ _ (@Wy _ _ _ _ _ _ _ _ _ _ _ _ _ _ _ _ Ew Zk hr (pv 0) (@Ya _ _ _ _ _ (pv 4) (@Ya _ _ _ _ _ (pv 5) Yc (by rfl)) (by rfl)) (by omega) (by rfl) (by rfl) (by rfl) (by rfl)) Yc (by rfl)) (by rfl) (by rfl) (by rfl) (by rfl) (by rfl)) (by rfl))) (by intro _;rfl)) (@Yf _ _ _ (@Yl _ _ _ _ (@Wy _ _ _ _ _ _ _ _ _ _ _ _ _ _ _ _ Z3P Zk hr (pv 0) (@Ya _ _ _ _ _ (pv 1) (@Ya _ _ _ _ _ (pv 2) (@Ya _ _ _ _ _ (pv 3) Yc (by rfl)) (by rfl)) (by rfl)) (by omega) (by rfl) (by rfl) (by rfl) (by rfl)))))),?_⟩;obtain ⟨L,hw⟩:=hv.pX rfl;obtain ⟨hL,w1⟩:=hw.len;have has:=hw.all_some rfl;have Dr:=hw.vx;have wd:=hw.wd rfl;have nm:∀ w∈L,w.1 ≠ .aN:=fun w hw e=>by
  have:=w1 w hw;rw [e] at this
  cases s<;>simp [jg] at this
 refine Ym fun R rr=>?_
 walk_at "rd";refine ⟨few (by decide),fun I gI=>rr _ _ (Ym fun R rr=>?_)⟩;have sI:=Yg.aj gI (.lst []);refine VB (fun l xs H2=>∃ (ts:List Addr),xs=ts.map V.ref/\Yg (upd H I (.lst [])) H2/\H2 l=some (.lst (ts.map V.ref))/\upd H I (.lst []) l=none/\Ut H2 lo ts L) (fun R r=>?_) ?_
 ·walk_at "rd"
  exact ⟨_,_,_,sI _ _ si.iH,Zk,Ze,_,Qg _ _,B,lo,a,s,v,_,L,rfl,bo.bk.kt (Yn sI),hS.kt (Yn sI),hw.kt (Yn sI),fun D ts H' s' gD hD hl pr=>r D _ H' (aA.of hD) ⟨ts,rfl,s',hD,gD,pr.1,fun i t w e1 e2=>by
   obtain ⟨p,h1,h2,_⟩:=pr.2 i t w e1 e2;exact ⟨p,h1,h2⟩⟩⟩
 ·rintro l xs0 H2 hS2 ⟨ts,rfl,s2,hl,gl,pr⟩
  have qD:=pr.1;have hlI:l≠I:=fun e=>by rw [e,Yb] at gl;cases gl
  have s3:=sI.trans s2;refine ⟨SfV g.P g.w g.K (Cs.mk Z0 Z1 Z2) Z7 Z6 H st ds ls dl d B lo f a v I l ts L,⟨none,none,[],f,xs,rfl,si.same s3,Wb s3,s2 _ _ Yb,si.li.new gI,by simp,(fun a h=>by cases h),⟨rfl,fun i a w h=>by cases h⟩,hl,si.li.new (sI.free gl),pr⟩,fun i σ H' _ ⟨_,_,_,_,_,_,_,_,_,_,_,_,_,hl',_,_⟩=>aA.of hl',?_,?_⟩
  ·rintro i x σ H' hx ⟨o4,o5,is_,f',xs',rfl,dR,go,hI,nI,Ii,nis,inn,hl',nl,Ey⟩
   rw [Υ] at hx
   obtain ⟨t,ht,rfl⟩:=ο.mp hx;have hi:=(Η.mp ht).1;have hwi:L[i]?=some (L[i]'(by omega)):=Λ _;generalize L[i]'(by omega)=w at hwi;have gG:=Χ hwi;obtain ⟨c,e1,e2⟩:=Ey.2 i t w ht hwi;have Ot:=si.li.tp go;have e3:=(Dr w gG).tp Ot (has w gG) (nm w gG);obtain ⟨wn,ewn⟩:=Option.isSome_iff_exists.mp (has w gG);rw [ewn] at e3
   have bo':=bo.go Ot go;refine ⟨t,_,rfl,aq.of e1,rfl,_,_,rfl,_,_,rfl,rfl,?_⟩;walk_at "rd";have:=w1 w gG;refine ⟨.inl ⟨rfl,_,aA.of hI⟩,_,_,dR.iH,QT _ _ (by decide +kernel) (by decide +kernel),st,ds,ls,dl,d,B,lo,f',xs',c,w.1,w.2.1,wn,rfl,dR,bo',e2,e3,by omega,fun T es=>absurd es (nm w gG),fun D H5 f5 xs5 Ej iI gD nD rs=>?_⟩;have xH:=iI.fr _ _ nI hI;have Ou:=iI.out nI (by rw [hI];simp);have Ek:=dR.li.tp iI;have DI:D≠I:=fun z=>by rw [z,hI] at gD;cases gD
   have il:=inn.1;rw [Θ,ν] at il
   have sV:Tp H' (upd H5 I (.lst (is_.map V.ref++[.ref D]))):=Ek.trans (WH xH);have old:∀ (j:Nat) a w,is_[j]?=some a->((L.take i).map fun w=>(w.1,w.2.1))[j]?=some w->Rs H' lo w.1 w.2 a/\w.1 ≠ .aN:=fun j a w k1 k2=>⟨inn.2 j a w k1 k2,by
    rw [Υ] at k2
    obtain ⟨z,hz,rfl⟩:=ο.mp k2;exact nm z (eB (Χ hz))⟩
   have al:∀ a∈is_,∃ us,H' a=some (.lst us):=fun a ha=>by
    obtain ⟨j,hj⟩:=bc ha;have hj':=(Η.mp hj).1;have hw:((L.take i).map fun w=>(w.1,w.2.1))[j]?=some (((L.take i).map fun w=>(w.1,w.2.1))[j]'(by rw [<- inn.1];exact hj')):=Λ _;exact (old j a _ hj hw).1.al
   refine ⟨_,xH,few (by rw [Θ];omega),_,_,is_++[D],f5,xs5,rfl,Ej.own xH Ou,(go.trans iI).own gI,by rw [Yb,am];rfl,Ou,fun h=>?_,fun a ha=>?_,⟨?_,fun j a w' k1 k2=>?_⟩,by rw [Ye hlI];exact iI.fr _ _ nl hl',iI.out nl (by rw [hl'];simp),Ey.tp sV⟩
   ·rcases τ.mp h with h | h
    ·exact Ii h
    ·exact DI (ε.mp h).symm
   ·rcases τ.mp ha with ha | ha
    ·obtain ⟨us,e⟩:=al a ha
     exact iI.out (nis a ha) (by rw [e];simp)
    ·cases ε.mp ha;exact nD
   ·rw [Κ,Θ,ν,ω];omega
   ·rw [Xl hwi,am] at k2
    by_cases cj:j<is_.length
    ·rw [υ cj] at k1
     rw [υ (by rw [Θ,ν];omega)] at k2
     have hm:=Χ k1;exact (old j a w' k1 k2).1.go sV (fun o e=>by rw [Ye fun z=>Ii (by rw [<- z];exact hm)];exact iI.fr _ _ (nis a hm) e) (old j a w' k1 k2).2
    ·have hj:j=is_.length:=by
      have:=(Η.mp k1).1;rw [Κ,ω] at this
      omega
     subst hj;rw [ac (Ν _),eJ] at k1
     cases Ε k1
     rw [ac (by rw [Θ,ν];omega),Θ,ν,show is_.length - min i L.length=0 by omega] at k2
     cases Ε k2
     exact rs.go (WH xH) (fun o e=>by rw [Ye DI];exact e) (nm _ gG)
  ·rintro σ H' ⟨o4,o5,is_,f',xs',rfl,dR,go,hI,nI,Ii,nis,inn,hl',nl,Ey⟩
   refine rr _ _ ?_;rw [Θ,qD,dS] at inn
   have tp:=si.li.tp go;have wi':=wd.go tp fun es T o ev eo=>go.fr T o (nT T es ev) eo
   walk_at "rd";exact ⟨_,_,dR.iH,QT _ _ (by decide +kernel) (by decide +kernel),st,ds,ls,dl,d,B,lo,f',xs',a,s,v,I,is_,_,rfl,dR,bo.go tp go,hS.tp tp,wi',hI,inn,nI,nis,fun D H3 f3 Ov Ow go3 gD nD rs=>q D H3 f3 Ov Ow (go.trans go3) (go.free dR.li gD) nD rs⟩
inductive Cq
 | dD (i:Int)
 | st (s:Str)
 | nl
 | dd (x:Dd)
 | ds (xs:List Dd)
 | dl (L:List (List Dd))
def dep:Cq->Nat
 | .dD _=>1
 | .st _=>1
 | .nl=>1
 | .dd _=>2
 | .ds _=>3
 | .dl _=>4
def cty:Cq->Nat
 | .dD _=>0
 | .st _=>0
 | .nl=>1
 | .dd _=>1
 | .ds _=>2
 | .dl _=>2
def cW (lo:Int):Cq->List Cq
 | .dd (.put o)=>[.st (bx 1),.dD (lo+o)]
 | .dd .ask=>[.st (bx 0),.nl]
 | .ds xs=>xs.map .dd
 | .dl L=>L.map .ds
 | _=>[]
def nH:Cq->Prop
 | .ds xs=>xs.length<=100
 | .dl L=>L.length<=20000/\∀ xs∈L,xs.length<=100
 | _=>True
theorem nH.sub {lo:Int} {c e:Cq} (h:nH c) (he:e∈cW lo c):nH e/\dep e<dep c:=by
 cases c with
 | dD i=>cases he
 | st s=>cases he
 | nl=>cases he
 | dd x =>
  cases x<;>simp [cW] at he<;>rcases he with rfl | rfl<;>exact ⟨trivial,by simp [dep]⟩
 | ds xs=>obtain ⟨x,_,rfl⟩:=ae.mp he;exact ⟨trivial,by simp [dep]⟩
 | dl L=>obtain ⟨x,hx,rfl⟩:=ae.mp he;exact ⟨h.2 x hx,by simp [dep]⟩
theorem nH.len {lo:Int} {c:Cq} (h:nH c):(cW lo c).length<=20000:=by
 cases c with
 | dD i=>exact ar _
 | st s=>exact ar _
 | nl=>exact ar _
 | dd x=>cases x<;>simp [cW]
 | ds xs=>rw [cW,Θ];have h:xs.length<=100:=h;omega
 | dl L=>rw [cW,Θ];exact h.1
inductive aM (H:Hp) (lo:Int):V->Cq->Prop
 | dD (i:Int):aM H lo (.int i) (.dD i)
 | st (s:Str):aM H lo (.str s) (.st s)
 | tup (a:Addr) (us:List V) (c:Cq) (hc:cty c=1) (h:H a=some (.tup us)) (hl:us.length=(cW lo c).length) (k:∀ (i:Nat) u e,us[i]?=some u->(cW lo c)[i]?=some e->aM H lo u e):aM H lo (.ref a) c
 | lst (a:Addr) (us:List V) (c:Cq) (hc:cty c=2) (h:H a=some (.lst us)) (hl:us.length=(cW lo c).length) (k:∀ (i:Nat) u e,us[i]?=some u->(cW lo c)[i]?=some e->aM H lo u e):aM H lo (.ref a) c
theorem aM.same {H H':Hp} {lo:Int} {v:V} {c:Cq} (h:aM H lo v c) (s:Yg H H'):aM H' lo v c:=by
 induction h with
 | dD i=>exact .dD i
 | st z=>exact .st z
 | tup a us c hc h hl k ih=>exact .tup a us c hc (s _ _ h) hl ih
 | lst a us c hc h hl k ih=>exact .lst a us c hc (s _ _ h) hl ih
theorem aM.tp {H H':Hp} (t:Tp H H') {lo:Int} {v:V} {c:Cq} (h:aM H lo v c):dep c<=2->aM H' lo v c:=by
 induction h with
 | dD i=>exact fun _ => .dD i
 | st z=>exact fun _ => .st z
 | tup a us c hc h hl k ih=>exact fun hd => .tup a us c hc (t _ _ h) hl fun i u e e1 e2=>ih i u e e1 e2 (by
   have:∀ e∈cW lo c,dep e<=1:=by
    cases c with
    | dd x=>intro e he;cases x<;>simp [cW] at he<;>rcases he with rfl | rfl<;>simp [dep]
    | nl=>intro e he;cases he
    | dD i=>intro e he;cases he
    | st z=>intro e he;cases he
    | ds xs=>cases hc
    | dl L=>cases hc
   exact Nat.le_succ_of_le (this e (Χ e2)))
 | lst a us c hc h hl k ih=>intro hd;cases c<;>first | (simp [dep] at hd;done) | (simp [cty] at hc;done)
theorem aM.own {H:Hp} {lo:Int} {v:V} {c:Cq} {D:Addr} {zs zs':List V} (h:aM H lo v c) (hd:dep c<=3) (hD:H D=some (.lst zs)) (ne:v ≠ .ref D):aM (upd H D (.lst zs')) lo v c:=by
 have t:Tp H (upd H D (.lst zs')):=WH hD
 cases h with
 | dD i=>exact .dD i
 | st z=>exact .st z
 | tup a us c hc h hl k=>exact (aM.tup a us c hc h hl k).tp t (by cases c<;>first | (simp [dep];done) | (simp [cty] at hc;done))
 | lst a us c hc h hl k=>exact .lst a us c hc (by rw [Ye fun z=>ne (by rw [z])];exact h) hl fun i u e e1 e2=>(k i u e e1 e2).tp t (by
   have:=Χ e2
   cases c with
   | ds xs=>obtain ⟨x,_,rfl⟩:=ae.mp this;simp [dep]
   | dl L=>simp [dep] at hd
   | _=>cases hc)
def Fs (H:Hp) (v:V):Prop:=∀ a,v = .ref a->H a=none
def Ox (H H':Hp) (v:V):Prop:=∀ a us,v = .ref a->H' a=some (.lst us)->∀ u∈us,Fs H u
inductive iu (m:Nat) (vs:List V) (H:Hp) (Q:VK) (E_:XK):Prop
 | mk (v:V) (lo:Int) (c:Cq) (h0:vs=[v]) (h1:aM H lo v c) (h2:nH c) (h3:dep c<=m) (h4:dep c<=4) (h5:∀ v' H',Yg H H'->(∀ a,v' = .ref a->H a=none)->Ox H H' v'->aM H' lo v' c->Q v' H')
theorem Ydq {vs:List V} {H:Hp} {Q:VK} {E:XK} (h:iu 0 vs H Q E):False:=by
 obtain ⟨v,lo,c,_,_,_,h,_⟩:=h
 cases c<;>simp [dep] at h
theorem xJ {k:Nat}  (R:g.Raw "copied" "copied" Us ["thing"]) (ZH:g.Fn k "copied" ["thing"] (iu m)) (fJ:g.mg "dict"=none) (Z3:g.mg "isinstance"=none) (aP:g.mg "list"=none) (Zf:g.mg "tuple"=none):g.Fn (k+1) "copied" ["thing"] (iu (m+1)):=by
 refine R.fn Ydh (fun vs H Q E h=>by obtain ⟨v,lo,c,rfl,hv,ok,hm,h4,q⟩:=h;rfl) fun f_ cdv A outer s H vs Q E hr h=>?_
 obtain ⟨v,lo,c,rfl,hv,ok,hm,h4,q⟩:=h;refine ⟨_,(@Yd _ _ _ _ _ (@Yy _ _ _ _ _ _ _ _ (@YT _ _ _ (@YA _ _ _ _ _ _ _ _ _ _ Z3 YL (@Ya _ _ _ _ _ (pv 0) (@Ya _ _ _ _ _ (@Xq _ _ _ _ ("list") aP (by decide +kernel) (by rfl) (by rfl) (by decide) (by decide)) Yc (by rfl)) (by rfl)) (by decide +kernel) (by rfl) (by rfl) (by decide) (by decide) (by rfl) (by rfl)) (by intro _;rfl)) (@Yf _ _ _ (@Yl _ _ _ _ (@XO _ _ _ _ _ _ _ ([none]) ((["each"]:List Str)) _ (YW 0) _ _ (.own .nil) rfl (@Xe _ _ _ _ (pv 0)) (fun cl C s₀ H₀ fp pn=>(@YD _ _ (0) _ (show bu (["each"]:List Str) by decide +kernel) rfl (.inl rfl) (.inr rfl))) (fun cl C s₀ H₀ fp pn=>Xp) (fun cl C s₀ H₀ fp pn=>(@Yr _ _ _ _ _ _ _ _ _ _ _ _ ZH hr (@Ya _ _ _ _ _ (pv 0) Yc (by rfl)) (by omega) (by rfl) (by rfl) (by decide) (by rfl) (by rfl))) (by intro x hx;simp at hx) (by rfl) (by decide) (by decide +kernel) (by intro _;rfl)))) Yp) (@Yd _ _ _ _ _ (@Yy _ _ _ _ _ _ _ _ (@YT _ _ _ (@YA _ _ _ _ _ _ _ _ _ _ Z3 YL (@Ya _ _ _ _ _ (pv 0) (@Ya _ _ _ _ _ (@Xq _ _ _ _ ("tuple") Zf (by decide +kernel) (by rfl) (by rfl) (by decide) (by decide)) Yc (by rfl)) (by rfl)) (by decide +kernel) (by rfl) (by rfl) (by decide) (by decide) (by rfl) (by rfl)) (by intro _;rfl)) (@Yf _ _ _ (@Yl _ _ _ _ (@Wz _ _ _ _ _ _ _ _ _ _ Zf Xz (@Ya _ _ _ _ _ (@XO _ _ _ _ _ _ _ ([none]) ((["each"]:List Str)) _ (YW 0) _ _ (.own .nil) rfl (@QX _ _ _ _ (pv 0)) (fun cl C s₀ H₀ fp pn=>(@YD _ _ (0) _ (show bu (["each"]:List Str) by decide +kernel) rfl (.inl rfl) (.inr rfl))) (fun cl C s₀ H₀ fp pn=>Xp) (fun cl C s₀ H₀ fp pn=>(@Yr _ _ _ _ _ _ _ _ _ _ _ _ ZH hr (@Ya _ _ _ _ _ (pv 0) Yc (by rfl)) (by omega) (by rfl) (by rfl) (by decide) (by rfl) (by rfl))) (by intro x hx;simp at hx) (by rfl) (by decide) (by decide +kernel) (by intro _;rfl)) Yc (by rfl)) (by decide +kernel) (by rfl) (by rfl) (by decide) (by decide) (by rfl) (by rfl)))) Yp) (@Yd _ _ _ _ _ (@Yy _ _ _ _ _ _ _ _ (@YT _ _ _ (@YA _ _ _ _ _ _ _ _ _ _ Z3 YL (@Ya _ _ _ _ _ (pv 0) (@Ya _ _ _ _ _ (@Xq _ _ _ _ ("dict") fJ (by decide +kernel) (by rfl) (by rfl) (by decide) (by decide)) Yc (by rfl)) (by rfl)) (by decide +kernel) (by rfl) (by rfl) (by decide) (by decide) (by rfl) (by rfl)) (by intro _;rfl)) (@Yf _ _ _ YI) Yp) (@Yf _ _ _ (@Yl _ _ _ _ (pv 0)))))),?_⟩
 cases hv with
 | dD i =>
  walk_at "rd";exact ⟨_,rfl,_,.int i,false,rfl,YC (by decide) ⟨_,rfl,_,.int i,false,rfl,YC (by decide) ⟨_,rfl,_,.int i,false,rfl,YC (by decide) (q _ H (.refl _) (fun a z=>by cases z) (fun a us z=>by cases z) (.dD i))⟩⟩⟩
 | st z =>
  walk_at "rd";exact ⟨_,rfl,_,.str z,false,rfl,YC (by decide) ⟨_,rfl,_,.str z,false,rfl,YC (by decide) ⟨_,rfl,_,.str z,false,rfl,YC (by decide) (q _ H (.refl _) (fun a z=>by cases z) (fun a us z=>by cases z) (.st z))⟩⟩⟩
 | tup a us c hc ha hl k =>
  have ol:=ok.len (lo:=lo);walk_at "rd";refine ⟨_,rfl,_,.tup ha,false,rfl,YC (by decide) ⟨_,rfl,_,.tup ha,true,rfl,Y3 rfl ?_⟩⟩;refine Qs (K:=g.K) (b:=a) (xs:=us) (fun D i y Hx=>y ≠ .ref D/\Fs H y/\∀ e,(cW lo c)[i]?=some e->aM Hx lo y e) (fun D i y Ha Hb h s=>⟨h.1,h.2.1,fun e he=>(h.2.2 e he).same s⟩) (fun D i y Hx zs zs' h hD=>⟨h.1,h.2.1,fun e he=>(h.2.2 e he).own (by have:=(ok.sub (Χ he)).2;omega) hD h.1⟩) (fun R r=>by walk_at "rd";exact r) (aq.of ha) (by omega) ?_ ?_
  ·intro D i x H' zs hx sm hd R r
   have hi:=(Η.mp hx).1;have he:(cW lo c)[i]?=some ((cW lo c)[i]'(by omega)):=Λ _;generalize (cW lo c)[i]'(by omega)=e at he;have sb:=ok.sub (Χ he);walk_at "rd";refine ⟨x,lo,e,rfl,(k i x e hx he).same sm,sb.1,by omega,by omega,fun v' aJ s'' fr _ hv'=>r v' aJ s'' ⟨fun z=>(by have:=fr D z;rw [hd] at this;cases this),fun b z=>sm.free (fr b z),fun e' he'=>?_⟩⟩;rw [he] at he'
   cases Ε he'
   exact hv'
  ·intro D ys H' hD sm hd tu hr
   refine ⟨D,rfl,_,.inl ⟨aA.of hd,fun l gl=>?_⟩⟩;have s2:=Yg.aj gl (.tup ys);exact q (.ref l) _ (sm.trans s2) (fun b e=>by cases e;exact sm.free gl) (fun a us e e2=>by cases e;rw [Yb] at e2;cases e2) (.tup l ys c hc Yb (by omega) fun i u e e1 e2=>((hr i u e1).2.2 e e2).same s2)
 | lst a us c hc ha hl k =>
  have ol:=ok.len (lo:=lo);walk_at "rd";refine ⟨_,rfl,_,.lst ha,true,rfl,Y3 rfl ?_⟩;refine KQ (K:=g.K) (b:=a) (xs:=us) (fun D i y Hx=>y ≠ .ref D/\Fs H y/\∀ e,(cW lo c)[i]?=some e->aM Hx lo y e) (fun D i y Ha Hb h s=>⟨h.1,h.2.1,fun e he=>(h.2.2 e he).same s⟩) (fun D i y Hx zs zs' h hD=>⟨h.1,h.2.1,fun e he=>(h.2.2 e he).own (by have:=(ok.sub (Χ he)).2;omega) hD h.1⟩) (fun R r=>by walk_at "rd";exact r) (aA.of ha) (by omega) ?_ ?_
  ·intro D i x H' zs hx sm hd R r
   have hi:=(Η.mp hx).1;have he:(cW lo c)[i]?=some ((cW lo c)[i]'(by omega)):=Λ _;generalize (cW lo c)[i]'(by omega)=e at he;have sb:=ok.sub (Χ he);walk_at "rd";refine ⟨x,lo,e,rfl,(k i x e hx he).same sm,sb.1,by omega,by omega,fun v' aJ s'' fr _ hv'=>r v' aJ s'' ⟨fun z=>(by have:=fr D z;rw [hd] at this;cases this),fun b z=>sm.free (fr b z),fun e' he'=>?_⟩⟩;rw [he] at he'
   cases Ε he'
   exact hv'
  ·intro D ys H' hD sm hd tu hr
   refine q (.ref D) _ sm (fun b e=>by cases e;exact hD) (fun a us e e2 u hu=>?_) (.lst D ys c hc hd (by omega) fun i u e e1 e2=>(hr i u e1).2.2 e e2)
   cases e
   rw [hd] at e2
   cases HO.lst.inj (Ε e2)
   obtain ⟨i,hi⟩:=bc hu;exact (hr i u hi).2.1
theorem Y6.cq {H:Hp} {lo:Int} {v:V} {x:Dd} (h:Y6 H lo v x):aM H lo v (.dd x):=by
 cases x with
 | put o =>
  obtain ⟨a,rfl,ha⟩:=h;refine .tup a _ _ rfl ha rfl fun i u e e1 e2=>?_
  match i,e1,e2 with
  | 0,e1,e2=>cases Ε e1;cases Ε e2;exact .st _
  | 1,e1,e2=>cases Ε e1;cases Ε e2;exact .dD _
 | ask =>
  obtain ⟨a,b,rfl,ha,hb⟩:=h;refine .tup a _ _ rfl ha rfl fun i u e e1 e2=>?_
  match i,e1,e2 with
  | 0,e1,e2=>cases Ε e1;cases Ε e2;exact .st _
  | 1,e1,e2=>cases Ε e1;cases Ε e2;exact .tup b _ _ rfl hb rfl fun i u e e1=>by cases e1
theorem Oz {H:Hp} {lo:Int} {v:V} {s:Str} (h:aM H lo v (.st s)):v = .str s:=by
 generalize hc:Cq.st s=c at h
 cases h with
 | dD i=>cases hc
 | st z=>cases hc;rfl
 | tup a us c h1=>subst hc;cases h1
 | lst a us c h1=>subst hc;cases h1
theorem Jd {H:Hp} {lo:Int} {v:V} {s:Int} (h:aM H lo v (.dD s)):v = .int s:=by
 generalize hc:Cq.dD s=c at h
 cases h with
 | dD i=>cases hc;rfl
 | st z=>cases hc
 | tup a us c h1=>subst hc;cases h1
 | lst a us c h1=>subst hc;cases h1
theorem OD {H:Hp} {lo:Int} {v:V} {c:Cq} (h:aM H lo v c) (hc:cty c=1):∃ a us,v = .ref a/\H a=some (.tup us)/\us.length=(cW lo c).length/\∀ (i:Nat) u e,us[i]?=some u->(cW lo c)[i]?=some e->aM H lo u e:=by
 cases h with
 | dD i=>cases hc
 | st z=>cases hc
 | tup a us c h1 ha hl k=>exact ⟨a,us,rfl,ha,hl,k⟩
 | lst a us c h1=>rw [hc] at h1;cases h1
theorem OJ {H:Hp} {lo:Int} {v:V} {c:Cq} (h:aM H lo v c) (hc:cty c=2):∃ a us,v = .ref a/\H a=some (.lst us)/\us.length=(cW lo c).length/\∀ (i:Nat) u e,us[i]?=some u->(cW lo c)[i]?=some e->aM H lo u e:=by
 cases h with
 | dD i=>cases hc
 | st z=>cases hc
 | tup a us c h1=>rw [hc] at h1;cases h1
 | lst a us c h1 ha hl k=>exact ⟨a,us,rfl,ha,hl,k⟩
theorem Je {H:Hp} {lo:Int} {v:V} {x:Dd} (h:aM H lo v (.dd x)):Y6 H lo v x:=by
 obtain ⟨a,us,rfl,ha,hl,k⟩:=OD h rfl
 cases x with
 | put o =>
  match us,hl with
  | [u0,u1],_ =>
   cases Oz (k 0 _ _ rfl rfl)
   cases Jd (k 1 _ _ rfl rfl)
   exact ⟨a,rfl,ha⟩
 | ask =>
  match us,hl with
  | [u0,u1],_ =>
   cases Oz (k 0 _ _ rfl rfl)
   obtain ⟨b,vs,rfl,hb,hl,_⟩:=OD (k 1 _ _ rfl rfl) rfl
   cases de.mp hl
   exact ⟨a,b,rfl,ha,hb⟩
theorem YN.cq {H:Hp} {lo:Int} {D:Addr} {us:List V} {xs:List Dd} (hD:H D=some (.lst us)) (h:YN H lo us xs):aM H lo (.ref D) (.ds xs):=by
 refine .lst D us _ rfl hD (by rw [cW,Θ];exact h.1) fun i u e e1 e2=>?_
 rw [cW,Υ] at e2
 obtain ⟨x,hx,rfl⟩:=ο.mp e2;exact (h.2 i u x e1 hx).cq
theorem Ua {H:Hp} {lo:Int} {v:V} {xs:List Dd} (h:aM H lo v (.ds xs)):∃ D us,v = .ref D/\H D=some (.lst us)/\YN H lo us xs:=by
 obtain ⟨a,us,rfl,ha,hl,k⟩:=OJ h rfl;rw [cW,Θ] at hl
 exact ⟨a,us,rfl,ha,hl,fun i u x e1 e2=>Je (k i u (.dd x) e1 (by rw [cW,Υ,e2];rfl))⟩
theorem xr.cq {H:Hp} {lo:Int} {D:Addr} {as:List Addr} {L:List (List Dd)} (hD:H D=some (.lst (as.map V.ref))) (h:xr H lo as L):aM H lo (.ref D) (.dl L):=by
 refine .lst D _ _ rfl hD (by rw [cW,Θ,Θ];exact h.len) fun i u e e1 e2=>?_
 rw [cW,Υ] at e2
 obtain ⟨x,hx,rfl⟩:=ο.mp e2;rw [Υ] at e1
 obtain ⟨a,ha,rfl⟩:=ο.mp e1;obtain ⟨us,h1,h2⟩:=h.get i a x ha hx;exact h2.cq h1
theorem F2.inj {α β:Type} {R:α->β->Prop}:∀ {as:List α} {bs cs:List β},F2 R as bs->F2 R as cs->(∀ a b c,R a b->R a c->b=c)->bs=cs
 | _,_,_,.nil,.nil,_=>rfl
 | _,_,_,.cons h t,.cons h' t',k=>by rw [k _ _ _ h h',t.inj t' k]
theorem O1 (xs:List Dd) (h:xs.length<=100):nH (.dl (stL xs)):=by
 constructor
 ·rw [stL,Κ,Et]
  have:=UQ (us:=xs) (ss:=xs.map dst) (fun s hs=>by obtain ⟨x,_,rfl⟩:=ae.mp hs;exact UR x) (xs.map dst).length (Ν _);have e:(wi xs (xs.map dst)).length<=100*(xs.map dst).length:=this;rw [Θ] at e
  omega
 ·intro z hz
  rcases τ.mp hz with hz | hz
  ·obtain ⟨i,_,rfl⟩:=ae.mp hz
   rw [Κ,ν,aI];omega
  ·obtain ⟨l,hl,hz⟩:=List.mem_flatten.mp hz
   obtain ⟨i,hi,rfl⟩:=ae.mp hl;obtain ⟨s,_,rfl⟩:=ae.mp hz;rw [gh,Θ] at hi
   rw [Κ,Κ,ν,aI,ω];omega
theorem YN.vx {H:Hp} {lo:Int} {T:Addr} {us:List V} {xs:List Dd} (hT:H T=some (.lst us)) (al:YN H lo us xs) (hk:∀ x∈xs,dB x) (hl:xs.length<=100):∃ n,Vx H lo .aN (.ref T) (some n):=by
 refine ⟨_,.aN T us (xs.map fun x=>some (1+dY x)) hT (by rw [Θ];exact al.1) (by have:=al.1;omega) (fun i u r e1 e2=>?_) _ (if_pos ?_).symm⟩
 ·rw [Υ] at e2
  obtain ⟨x,hx,rfl⟩:=ο.mp e2;exact .us u (some (dY x)) ((al.2 i u x e1 hx).vx (hk x (Χ hx)))
 ·refine gE.mpr fun z hz=>?_
  obtain ⟨x,_,rfl⟩:=ae.mp hz;rfl
inductive mL (K:Ι) (vs:List V) (H:Hp) (Q:VK) (E_:XK):Prop
 | mk (B:Addr) (lo:Int) (a T:Addr) (us:List V) (xs:List Dd) (h0:vs=[.ref B,.ref a,.ref T]) (h1:cX H lo B) (h2:Y7 H lo a .aN) (h3:H T=some (.lst us)) (h4:YN H lo us xs) (h5:(∀ x∈xs,dB x)) (h6:xs.length<=100) (h7:∀ v' H',Yg H H'->(∀ a,v' = .ref a->H a=none)->Ox H H' v'->aM H' lo v' (.dl (stL xs))->Q v' H')
theorem YaS {k:Nat} {Z5 Z7 Z1 Z2 Z6 Z0:Addr} (R:g.Raw "steps_of" "steps_of" BK ["book","shape","value"]) (ZH:g.Fn k "copied" ["thing"] (iu 4)) (Ez:g.fV k "refuse_no_value" ["book","shape","value"] (nu g.K Z5)) {fK:Nat} (Z3Q:g.Ma fK "Stepper" Z6 ["self","book"] (N6 g.P g.w g.K (Cs.mk Z0 Z1 Z2) Z7 Z6)) (tD:fK+1<=k) (Ew:g.Me k Z6 "steps_from" ["self","shape","value"] (mK g.P g.w g.K (Cs.mk Z0 Z1 Z2) Z7 Z6 4)) (Zk:Cls g.K Z6) (Ze:Yo g.K Z6 "book") (Zc:Yo g.K Z6 "lister"):g.Fn (k+1) "steps_of" ["book","shape","value"] (mL g.K):=by
 refine R.fn YaJ (fun vs H Q E h=>by obtain ⟨B,lo,a,T,us,xs,rfl,hB,hS,hT,al,hk,hl,q⟩:=h;rfl) fun f_ cdv A outer s H vs Q E hr h=>?_
 obtain ⟨B,lo,a,T,us,xs,rfl,hB,hS,hT,al,hk,hl,q⟩:=h;refine ⟨_,(@Yd _ _ _ _ _ (@Xc _ _ _ _ (@Q8 _ _ _ _ _ _ _ _ _ _ _ _ _ Ez hr KR (@Ya _ _ _ _ _ (pv 0) (@Ya _ _ _ _ _ (pv 1) (@Ya _ _ _ _ _ (pv 2) Yc (by rfl)) (by rfl)) (by rfl)) (by omega) (by rfl) (by rfl) (by decide) (by rfl) (by rfl)) (by rfl)) (@Yf _ _ _ (@Yl _ _ _ _ (@Yr _ _ _ _ _ _ _ _ _ _ _ _ ZH hr (@Ya _ _ _ _ _ (@Wy _ _ _ _ _ _ _ _ _ _ _ _ _ _ _ _ Ew Zk hr (@UH _ _ _ _ _ _ _ _ _ _ _ _ _ Z3Q hr (@Ya _ _ _ _ _ (pv 0) Yc (by rfl)) (by omega) (by rfl) (by rfl) (by decide) (by rfl) (by rfl)) (@Ya _ _ _ _ _ (pv 1) (@Ya _ _ _ _ _ (pv 2) Yc (by rfl)) (by rfl)) (by omega) (by rfl) (by rfl) (by rfl) (by rfl)) Yc (by rfl)) (by omega) (by rfl) (by rfl) (by decide) (by rfl) (by rfl))))),?_⟩;obtain ⟨n,hv⟩:=al.vx hT hk hl;obtain ⟨bp,bm,tE,_,_⟩:=hB.ex;refine Ym fun R rr=>?_
 walk_at "rd";refine ⟨B,lo,a,.aN,.ref T,_,rfl,hB,hS,hv,fun _ H1 s1=>rr _ _ ?_,fun e=>by cases e⟩;walk_at "rd";intro st ds g1 g2 hne;refine ⟨st,ds,.ref B,lo,rfl,Yb,fun ls dl d H2 sb si gd=>?_⟩;have s2:Yg H H2:=s1.trans (W8 g1 g2 sb);have gd0:H d=none:=s1.free (XH (XH gd));have nm:∀ {x:Addr} {o:HO},H x=some o->¬ mu d (fun _=>none) x:=fun e h=>by
  rcases h with h | ⟨k,p,ms,h,_⟩
  ·rw [h,gd0] at e;cases e
  ·cases h
 refine ⟨rfl,_,_,si.iH,QT _ _ (by decide +kernel) (by decide +kernel),st,ds,ls,dl,d,B,lo,fun _=>none,[],a,.aN,.ref T,n,rfl,si,⟨hB.kt (Yn s2),nm tE⟩,hS.kt (Yn s2),hv.kt (Yn s2),by decide,fun T' _ e=>(by cases e;exact nm hT),fun D H3 f3 Ov Ow go gD nD rs=>?_⟩;have s3:Yg H H3:=fun x o e=>go.fr x o (nm e) (s2 _ _ e)
 cases rs with
 | aN _ us' xs' as _ hT' iJ hD hl' =>
  rw [s3 _ _ hT] at hT'
  cases HO.lst.inj (Ε hT')
  cases (al.tp (YX (Yn s3))).f2.inj iJ.f2 fun _ _ _ h1 h2=>h1.inj h2
  exact ⟨.ref D,lo,.dl (stL xs),rfl,hl'.cq hD,O1 xs hl,by simp [dep],by simp [dep],fun v' H4 s4 fr f2 hc=>q v' H4 (s3.trans s4) (fun a e=>s3.free (fr a e)) (fun a us e e2 u hu b z=>s3.free (f2 a us e e2 u hu b z)) hc⟩
section
 variable {src:List (Option Nat)} {te:TE} {σ:St} {H:Hp} {Q:VK}
theorem Yes {ta:TA} {n c m:Nat} (hu:U5 n c m) (hc:0<c) (hc':c<2^29) (hn:n<2^60) (Rl:Addr->Nat->V->Hp->Prop) (st:∀ D i y H H',Rl D i y H->Yg H H'->Rl D i y H') (su:∀ D i y H zs zs',Rl D i y H->H D=some (.lst zs)->Rl D i y (upd H D (.lst zs'))) (ha:∀ R:List V->Hp->Prop,R [.int 0,.int n,.int c] H->ta σ H R) (hlen:m<=10000)
  (step:∀ D (i:Nat) H' zs,i<m->Yg H H'->H' D=some (.lst zs)->∀ R:VK,(∀ y aJ,Yg H' aJ->Rl D i y aJ->R y aJ)->te (some (.int ((i*c:Nat):Int))::YJ src σ) H' R)
  (fin:∀ D (ys:List V) H',H D=none->Yg H H'->H' D=some (.lst ys)->ys.length=m->(∀ (j:Nat) y,ys[j]?=some y->Rl D j y H')->Q (.ref D) H'):je (none::src) (KH ta) (YW 0) Wj te σ H Q:=by
 refine ha _ ⟨0,n,c,rfl,⟨by decide,by decide,by omega,by omega,by omega,by omega⟩,fun D hD=>?_⟩;obtain ⟨m',em,hm⟩:=YdY (n:=n) (c:=c) hc;have:=hu.uniq hm;subst this;rw [em,fA];refine U4 (YdX (lo:=0) (c:=c) (n:=m) (P:=fun _=>True)) (Rl D) (st D) (su D) (fun _ _=>trivial) hD (by simp;omega) (fun i x H' zs hx sm hd R r=>?_) fun ys H' sm hd hl hr=>fin D ys H' hD sm hd (by simpa using hl) hr
 have hi:i<m:=by have:=(Η.mp hx).1;simpa using this
 rw [Υ,eP hi] at hx
 have e:V.int (0+(i:Int)*c)=x:=Ε hx;rw [Int.zero_add,<- Int.natCast_mul] at e
 subst e;exact step D i H' zs hi sm hd R r
end
def nJ (n c:Nat):Nat:=if n=0 then 0 else (n - 1) / c+1
theorem O2 {n c:Nat} (hc:0<c):U5 n c (nJ n c):=by
 unfold nJ
 split
 ·rename_i h;exact ⟨fun i hi=>absurd hi (by omega),by omega⟩
 ·refine ⟨fun i hi=>?_,?_⟩
  ·have h1:i*c<=(n - 1) / c*c:=Nat.mul_le_mul_right c (by omega)
   have h2:=Nat.div_mul_le_self (n - 1) c;omega
  ·have h1:=Nat.div_add_mod (n - 1) c
   have h2:=Nat.mod_lt (n - 1) hc;rw [Nat.add_mul,Nat.mul_comm];omega
theorem Ygq {n c:Nat}:nJ n c<=n:=by
 unfold nJ
 split
 ·exact ar _
 ·have:=Nat.div_le_self (n - 1) c;omega
def blk {α:Type} (xs:List α) (c:Nat):List (List α):=(a9 (nJ xs.length c)).map fun i=>xs.take (i*c)++xs.drop (i*c+c)
def VD {α:Type}:Nat->List α->Nat->List (List α)
 | 0,_,_=>[]
 | f+1,xs,c=>if c=0 then [] else blk xs c++VD f xs (c / 2)
def xK {α:Type} (xs:List α):List (List α):=VD 20 xs xs.length
theorem Qx {α:Type} {f c:Nat} {xs:List α} (h:0<c):VD (f+1) xs c=blk xs c++VD f xs (c / 2):=by rw [VD,if_neg (by omega)]
theorem Qy {α:Type} {f:Nat} {xs:List α}:VD f xs 0=[]:=by cases f<;>rfl
inductive jA (K:Ι) (vs:List V) (H:Hp) (Q:VK) (E_:XK):Prop
 | mk (lo:Int) (T:Addr) (us:List V) (xs:List Dd) (h0:vs=[.ref T]) (h1:H T=some (.lst us)) (h2:YN H lo us xs) (h3:xs.length<=100) (h4:∀ D ys H',Yg H H'->H D=none->H' D=some (.lst ys)->ys.length<=2000->(∀ y∈ys,Fs H y)->F2 (aM H' lo) ys ((xK xs).map .ds)->Q (.ref D) H')
inductive CuV (H:Hp) (lo:Int) (xs:List Dd) (T X:Addr) (a:Nat×Nat×List (List Dd)) (σ:St) (H':Hp):Prop
 | mk (ys:List V) (e:σ=[some (.ref T),some (.ref X),some (.int (a.1:Nat))]) (h1:a.1<2^a.2.1) (h2:a.2.1<=20) (h3:a.1<=xs.length) (h4:xK xs=a.2.2++VD a.2.1 xs a.1) (sm:Yg H H') (hX:H' X=some (.lst ys)) (hl:ys.length+100*a.2.1<=2000) (f2:F2 (aM H' lo) ys (a.2.2.map .ds)) (ny:∀ y∈ys,y ≠ .ref X/\Fs H y)
theorem F2.mono {α β:Type} {R R':α->β->Prop} {as:List α} {bs:List β} (h:F2 R as bs) (k:∀ a∈as,∀ b∈bs,R a b->R' a b):F2 R' as bs:=F2.of h.len fun i a b e1 e2=>k a (Χ e1) b (Χ e2) (h.get i a b e1 e2)
theorem YfH {k:Nat}  (R:g.Raw "cuts" "cuts" BR ["deeds"]) (ZH:g.Fn k "copied" ["thing"] (iu 4)) (aH:g.mg "len"=none) (Zw:g.mg "range"=none):g.Fn (k+1) "cuts" ["deeds"] (jA g.K):=by
 refine R.fn V7 (fun vs H Q E h=>by obtain ⟨lo,T,us,xs,rfl,hT,al,hl,q⟩:=h;rfl) fun f_ cdv A outer s H vs Q E hr h=>?_
 obtain ⟨lo,T,us,xs,rfl,hT,al,hl,q⟩:=h;refine ⟨_,(@Yd _ _ _ _ _ (@Yv _ _ (1) _ _ _ _ V7.nd rfl (.inl rfl) (@Y0 _ _ _ _ Yc) (by rfl) (by first | exact .inl rfl | exact .inr rfl | assumption)) (@Yd _ _ _ _ _ (@Yv _ _ (2) _ _ _ _ V7.nd rfl (.inr rfl) (@YA _ _ _ _ _ _ _ _ _ _ aH YF (@Ya _ _ _ _ _ (pv 0) Yc (by rfl)) (by decide +kernel) (by rfl) (by rfl) (by decide) (by decide) (by rfl) (by rfl)) (by rfl) (by first | exact .inl rfl | exact .inr rfl | assumption)) (@Yd _ _ _ _ _ (@Wn _ _ _ _ _ _ av (@Yt _ _ _ _ _ _ _ _ zf (pv 2) Yh (Yq _)) (@Yd _ _ _ _ _ (@Xc _ _ _ _ (@X4 _ _ _ _ _ _ _ _ _ _ _ _ bt F.slot_list_extend F.type_list_extend VP (pv 1) (@Ya _ _ _ _ _ (@XO _ _ _ _ _ _ _ ([none,some 0,some 2]) ((["begin","deeds","length"]:List Str)) _ (YW 0) _ _ (.own (.cap (i:=0) rfl rfl (by first | exact .inl rfl | exact .inr rfl) (.cap (i:=2) rfl rfl (by first | exact .inl rfl | exact .inr rfl) .nil))) rfl (@YcZ _ _ _ _ _ _ _ _ rfl Zw (@Ya _ _ _ _ _ Yh (@Ya _ _ _ _ _ (@YA _ _ _ _ _ _ _ _ _ _ aH YF (@Ya _ _ _ _ _ (pv 0) Yc (by rfl)) (by decide +kernel) (by rfl) (by rfl) (by decide) (by decide) (by rfl) (by rfl)) (@Ya _ _ _ _ _ (pv 2) Yc (by rfl)) (by rfl)) (by rfl)) (by rfl) (by rfl)) (fun cl C s₀ H₀ fp pn=>(@YD _ _ (0) _ (show bu (["begin","deeds","length"]:List Str) by decide +kernel) rfl (.inl rfl) (.inr rfl))) (fun cl C s₀ H₀ fp pn=>Xp) (fun cl C s₀ H₀ fp pn=>(@Yr _ _ _ _ _ _ _ _ _ _ _ _ ZH hr (@Ya _ _ _ _ _ (@Ys _ _ _ _ _ _ _ _ Xu (@Xr _ _ _ _ _ _ _ _ _ _ (Ws (K:=g.K)) (pv 1) Xx (@Xy _ _ _ (pv 0))) (@Xr _ _ _ _ _ _ _ _ _ _ (Ws (K:=g.K)) (pv 1) (@Xy _ _ _ (@Ys _ _ _ _ _ _ _ _ Xa (pv 0) (pv 2))) Xx)) Yc (by rfl)) (by omega) (by rfl) (by rfl) (by decide) (by rfl) (by rfl))) (by intro x hx;simp at hx;first | (subst hx;exact .inl rfl) | (rcases hx with rfl | rfl<;>exact .inl rfl) | (rcases hx with rfl | rfl | rfl<;>exact .inl rfl) | (rcases hx with rfl | rfl | rfl | rfl<;>exact .inl rfl) | (rcases hx with rfl | rfl | rfl | rfl | rfl<;>exact .inl rfl)) (by rfl) (by decide) (by decide +kernel) (by intro _;rfl)) Yc (by rfl)) (by rfl) (by rfl) (by rfl) (by rfl) (by rfl)) (by rfl)) (@Yf _ _ _ (@Yv _ _ (2) _ _ _ _ V7.nd rfl (.inr rfl) (@Ys _ _ _ _ _ _ _ _ Wp (pv 2) Yh) (by rfl) (by first | exact .inl rfl | exact .inr rfl | assumption))))) (@Yf _ _ _ (@Yl _ _ _ _ (pv 1)))))),?_⟩;have ul:=al.1;refine Ym fun R rr=>?_
 walk_at "rd";refine ⟨few (by decide),fun X gX=>rr _ _ (Ym fun R rr=>?_)⟩;have sX:=Yg.aj gX (.lst []);walk_at "rd";refine ⟨_,.inl (aA.of (sX _ _ hT)),rr _ _ (Ym fun R rr=>?_)⟩;refine Wr (α:=Nat×Nat×List (List Dd)) (CuV H lo xs T X) (fun a=>decide (0<a.1)) (fun a=>a.1) (xs.length,20,[]) ⟨[],by rw [ul],(by show xs.length<2^20;omega),Ν 20,Ν _,rfl,sX,Yb,by simp,.nil,fun y h=>by cases h⟩ ?_ ?_ ?_
 ·rintro ⟨x,f,l⟩ σ H' ⟨ys,rfl,h1,h2,h3,h4,sm,hX,hyl,f2,ny⟩ R r
  walk_at "rd";have:=r H' ⟨ys,rfl,h1,h2,h3,h4,sm,hX,hyl,f2,ny⟩;rw [show decide (0<x)=decide ((0:Int)<(x:Int)) from decide_eq_decide.mpr (by omega)] at this
  exact this
 ·rintro ⟨x,f,l⟩ σ H' ⟨ys,rfl,h1,h2,h3,h4,sm,hX,hyl,f2,ny⟩ hx
  have hx0:0<x:=of_decide_eq_true hx;clear hx;have hf:f≠0:=fun z=>by subst z;simp at h1;omega
  obtain ⟨f,rfl⟩:∃ f',f=f'+1:=⟨f - 1,by omega⟩;dsimp only at h1 h2 h3 h4 hX hyl f2 ⊢;rw [Qx hx0] at h4
  rw [Nat.pow_succ] at h1
  have hu:=O2 (n:=xs.length) hx0;have Ed:=Ygq (n:=xs.length) (c:=x);refine Ym fun R rr=>?_
  walk_at "rd";refine ⟨.inl ⟨rfl,_,aA.of hX⟩,?_⟩;refine Yes (n:=xs.length) (c:=x) (m:=nJ xs.length x) hu hx0 (by omega) (by omega) (fun D i y Hx=>y ≠ .ref D/\(y ≠ .ref X/\Fs H y)/\aM Hx lo y (.ds (xs.take (i*x)++xs.drop (i*x+x)))) (fun D i y Ha Hb h s=>⟨h.1,h.2.1,h.2.2.same s⟩) (fun D i y Hx zs zs' h hD=>⟨h.1,h.2.1,h.2.2.own (by simp [dep]) hD h.1⟩) (fun R r=>?_) (by omega) ?_ ?_
  ·walk_at "rd"
   refine ⟨_,.inl (aA.of (sm _ _ hT)),?_⟩;rw [ul];exact r
  ·intro D i H2 zs hi s2 hd R r
   walk_at "rd";have hT2:=s2 _ _ (sm _ _ hT);refine ⟨_,aA.of hT2,fun P1 g1=>?_⟩;rw [Wq];have t1:=Yg.aj g1 (.lst (us.take (i*x)));refine ⟨_,aA.of (t1 _ _ hT2),fun P2 g2=>?_⟩;rw [show ((i*x:Nat):Int)+(x:Int)=((i*x+x:Nat):Int) by omega,Vj];have t2:=Yg.aj g2 (.lst (us.drop (i*x+x)));refine ⟨_,t2 _ _ Yb,_,Yb,few (by simp;omega),fun P3 g3=>?_⟩;have t3:=Yg.aj g3 (.lst (us.take (i*x)++us.drop (i*x+x)));have t:=(t1.trans t2).trans t3;have iJ:=(al.tp (YX (Yn ((sm.trans s2).trans t)))).f2;refine ⟨.ref P3,lo,.ds (xs.take (i*x)++xs.drop (i*x+x)),rfl,YN.cq Yb ((iJ.take _).app (iJ.drop _)).al,?_,by simp [dep],by simp [dep],fun v' H3 s3 fr _ hv=>r v' H3 (t.trans s3) ⟨fun z=>?_,⟨fun z=>?_,fun b z=>((sm.trans s2).trans t).free (fr b z)⟩,hv⟩⟩
   ·show (xs.take (i*x)++xs.drop (i*x+x)).length<=100
    rw [Κ,ν,aI];omega
   ·have:=fr D z;rw [t _ _ hd] at this;cases this
   ·have:=fr X z;rw [t _ _ (s2 _ _ hX)] at this;cases this
  ·intro D zs H2 gD s2 hd pY hr
   have wA:X≠D:=Yj hX gD;refine ⟨X,D,_,_,rfl,rfl,s2 _ _ hX,hd,few (by omega),rr _ _ ?_⟩;walk_at "rd";have hX2:=s2 _ _ hX;have e:((x:Nat):Int) / 2=((x / 2:Nat):Int):=by omega
   rw [e];refine ⟨Wa (by decide) (by decide),(x / 2,f,l++blk xs x),⟨ys++zs,rfl,(by omega:x / 2<2^f),(by omega:f<=20),(by omega:x / 2<=xs.length),?_,.cO gX (sm.trans s2) _,Yb,?_,?_,fun y hy=>?_⟩,(by omega:x / 2<x)⟩
   ·show xK xs=(l++blk xs x)++VD f xs (x / 2)
    rw [h4,List.append_assoc]
   ·show (ys++zs).length+100*f<=2000
    rw [Κ];omega
   ·show F2 (aM (upd H2 X (.lst (ys++zs))) lo) (ys++zs) ((l++blk xs x).map .ds)
    rw [am];refine F2.app (f2.mono fun y hy c hc h=>?_) (F2.of (by rw [Θ,blk,Θ,List.length_range,pY]) fun j y c e1 e2=>?_)
    ·obtain ⟨z,_,rfl⟩:=ae.mp hc
     exact (h.same s2).own (by simp [dep]) hX2 (ny y hy).1
    ·rw [Υ,blk,Υ] at e2
     have hj:j<nJ xs.length x:=by rw [<- pY];exact (Η.mp e1).1
     rw [eP hj] at e2
     cases Ε e2
     have:=hr j y e1;exact this.2.2.own (by simp [dep]) hX2 this.2.1.1
   ·rcases τ.mp hy with hy | hy
    ·exact ny y hy
    ·obtain ⟨j,hj⟩:=bc hy
     exact (hr j y hj).2.1
 ·rintro ⟨x,f,l⟩ σ H' ⟨ys,rfl,h1,h2,h3,h4,sm,hX,hyl,f2,ny⟩ hx
  have hx:x=0:=by have:=of_decide_eq_false hx;omega
  subst hx;refine rr _ _ ?_;walk_at "rd";rw [Qy,bi] at h4
  exact q X ys H' sm gX hX (by dsimp only at hyl;omega) (fun y hy=>(ny y hy).2) (by rw [h4];exact f2)
def An.O4:An->Bool
 | .bl _=>true
 | _=>false
theorem YaT  (R:g.Raw "is_truth" "is_truth" Bk ["thing"]) (dN:g.mg "bool"=none) (Z3:g.mg "isinstance"=none):g.Fn (1) "is_truth" ["thing"] (ni An.O4):=by
 refine R.fn YaI (fun vs H Q E h=>by obtain ⟨a,rfl,q⟩:=h;rfl) fun f_ cdv A outer s H vs Q E hr h=>?_
 obtain ⟨a,rfl,q⟩:=h;refine ⟨_,(@Yf _ _ _ (@Yl _ _ _ _ (@YA _ _ _ _ _ _ _ _ _ _ Z3 YL (@Ya _ _ _ _ _ (pv 0) (@Ya _ _ _ _ _ (@Xq _ _ _ _ ("bool") dN (by decide +kernel) (by rfl) (by rfl) (by decide) (by decide)) Yc (by rfl)) (by rfl)) (by decide +kernel) (by rfl) (by rfl) (by decide) (by decide) (by rfl) (by rfl)))),?_⟩;walk_at "rd"
 cases a with
 | non=>exact ⟨_,rfl,_,.non,false,rfl,q⟩
 | bl b=>exact ⟨_,rfl,_,.bl b,true,rfl,q⟩
 | int i=>exact ⟨_,rfl,_,.int i,false,rfl,q⟩
 | str z=>exact ⟨_,rfl,_,.str z,false,rfl,q⟩
inductive pZ (vs:List V) (H:Hp) (Q:VK) (E_:XK):Prop
 | mk (i j:Int) (h0:vs=[.int i,.int j]) (h1:Q (.bl (decide (i=j))) H)
theorem YfI {k:Nat}  (R:g.Raw "same" "same" Bj ["one","other"]) (v9:g.Fn k "is_whole_number" ["thing"] (VY)) (qG:g.Fn k "is_truth" ["thing"] (ni An.O4)):g.Fn (k+1) "same" ["one","other"] (pZ):=by
 refine R.fn YfD (fun vs H Q E h=>by obtain ⟨i,j,rfl,q⟩:=h;rfl) fun f_ cdv A outer s H vs Q E hr h=>?_
 obtain ⟨i,j,rfl,q⟩:=h;refine ⟨_,(@Yd _ _ _ _ _ (@Yy _ _ _ _ _ _ _ _ (@YT _ _ _ (@Yr _ _ _ _ _ _ _ _ _ _ _ _ qG hr (@Ya _ _ _ _ _ (pv 0) Yc (by rfl)) (by omega) (by rfl) (by rfl) (by decide) (by rfl) (by rfl)) (by intro _;rfl)) (@Yf _ _ _ YI) Yp) (@Yd _ _ _ _ _ (@Yy _ _ _ _ _ _ _ _ (@YT _ _ _ (@Yr _ _ _ _ _ _ _ _ _ _ _ _ v9 hr (@Ya _ _ _ _ _ (pv 0) Yc (by rfl)) (by omega) (by rfl) (by rfl) (by decide) (by rfl) (by rfl)) (by intro _;rfl)) (@Yf _ _ _ (@Yl _ _ _ _ (@XA _ _ _ _ _ _ _ (@Yr _ _ _ _ _ _ _ _ _ _ _ _ v9 hr (@Ya _ _ _ _ _ (pv 1) Yc (by rfl)) (by omega) (by rfl) (by rfl) (by decide) (by rfl) (by rfl)) (@XQ _ _ _ _ _ (@Xn _ _ _ _ _ _ _ _ YQ (pv 0) (pv 1) (Yq _)))))) Yp) (@Yd _ _ _ _ _ YI (@Yd _ _ _ _ _ YI (@Yd _ _ _ _ _ YI (@Yf _ _ _ YI)))))),?_⟩;walk_at "rd";exact ⟨.int i,rfl,false,rfl,YC (by decide) ⟨.int i,rfl,true,rfl,Y3 rfl ⟨.int j,rfl,true,rfl,Y3 rfl q⟩⟩⟩
def NL (H H':Hp):Prop:=(∀ b xs,H b=some (.tup xs)->H' b=some (.tup xs))/\∀ b φ,H b=some (.ext φ)->H' b=some (.ext φ)
theorem NL.refl (H:Hp):NL H H:=⟨fun _ _ e=>e,fun _ _ e=>e⟩
theorem NL.trans {H H1 H2:Hp} (a:NL H H1) (b:NL H1 H2):NL H H2:=⟨fun c o e=>b.1 c o (a.1 c o e),fun c o e=>b.2 c o (a.2 c o e)⟩
theorem WA {H H':Hp} (s:Yg H H'):NL H H':=⟨fun b o e=>s b _ e,fun b o e=>s b _ e⟩
theorem Kt.nl {H H':Hp} (h:Kt H H'):NL H H':=⟨fun b xs e=>h b _ (by intro ps z;cases z) e,fun b φ e=>h b _ (by intro ps z;cases z) e⟩
theorem WI {H H':Hp} {P:Addr} {ps:Array Α} (hk:∀ a o,a≠P->H a=some o->H' a=some o) (hP:H P=some (.aU ps)):Kt H H':=fun c o n e=>hk c o (YE e hP (n _)) e
theorem VE {H H':Hp} {f c:Addr} {fd:ba} {q:Str} {l:YB} (h:Vc H f c fd q l) (n:NL H H'):Vc H' f c fd q l :=
 ⟨n.2 _ _ h.1,n.2 _ _ h.2.1,fun p hp=>n.2 _ _ (h.2.2 p hp)⟩
abbrev xM (g:Gx) (j:Nat) (f:Addr) (fd:ba) (ps:List Str) (sp:Sp):Prop:=bG g.P g.w g.K g.mg g.base dG j f fd ps sp/\∀ us:List Α,us.length=ps.length->gi fd ⟨us,[]⟩=pure (ps.zip us)
def WB (g:Gx) (H:Hp) (f:Addr):Prop:=∃ fd sp,xM g 10 f fd [] sp/\H f=some (cY f fd)/\∀ (H1:Hp) (Q:VK),NL H H1->(∀ H',Yg H1 H'->Q (.int 0) H')->H1 f=some (cY f fd)/\sp [] H1 Q E0
def ans (bad:Int) (n:Nat):Int:=if (n:Int)=bad then 1 else 0
def X3 (g:Gx) (H:Hp) (f:Addr) (bad:Int):Prop:=∃ fd sp,xM g 10 f fd ["_law_state","_law_deed_here"] sp/\H f=some (cY f fd) /\
 ∀ (H1:Hp) (n:Nat) (v:V) (Q:VK),NL H H1->(∀ T H',Yg H1 H'->H' T=some (.tup [.int ((n+1:Nat):Int),.int (ans bad n)])->Q (.ref T) H')->H1 f=some (cY f fd)/\sp [.int (n:Nat),v] H1 Q E0
theorem WB.nl {g:Gx} {H H':Hp} {f:Addr} (h:WB g H f) (n:NL H H'):WB g H' f:=by
 obtain ⟨fd,sp,h1,h2,h3⟩:=h;exact ⟨fd,sp,h1,n.2 _ _ h2,fun H1 Q n1=>h3 H1 Q (n.trans n1)⟩
theorem X3.nl {g:Gx} {H H':Hp} {f:Addr} {bad:Int} (h:X3 g H f bad) (n:NL H H'):X3 g H' f bad:=by
 obtain ⟨fd,sp,h1,h2,h3⟩:=h;exact ⟨fd,sp,h1,n.2 _ _ h2,fun H1 m v Q n1=>h3 H1 m v Q (n.trans n1)⟩
def nO (bad:Int) (k:Nat):V:=if 0<=bad/\bad<(k:Int) then .int bad else .non
inductive j8 (g:Gx) (vs:List V) (H:Hp) (Q:VK) (E_:XK):Prop
 | mk (b1 f1 b2 f2 D:Addr) (lo bad:Int) (us:List V) (xs:List Dd) (h0:vs=[.ref b1,.ref f1,.ref b2,.ref f2,.ref D]) (h1:WB g H b1) (h2:X3 g H f1 (-1)) (h3:WB g H b2) (h4:X3 g H f2 bad) (h5:H D=some (.lst us)) (h6:YN H lo us xs) (h7:xs.length<=100) (h8:∀ H',Yg H H'->Q (nO bad xs.length) H')
theorem Yet {k:Nat}  (R:g.Raw "apart" "apart" Qe ["begin","done","model_begin","model_done","deeds"]) (ZH:g.Fn k "copied" ["thing"] (iu 4)) (EY:g.Fn k "same" ["one","other"] (pZ)) (hkc:10<=k) (Zq:g.mg "enumerate"=none):g.Fn (k+1) "apart" ["begin","done","model_begin","model_done","deeds"] (j8 g):=by
 refine R.fn jV (fun vs H Q E h=>by obtain ⟨b1,f1,b2,f2,D,lo,bad,us,xs,rfl,hb1,hf1,hb2,hf2,hD,al,hl,q⟩:=h;rfl) fun f_ cdv A outer s H vs Q E hr h=>?_
 obtain ⟨b1,f1,b2,f2,D,lo,bad,us,xs,rfl,hb1,hf1,hb2,hf2,hD,al,hl,q⟩:=h;refine ⟨_,(@Yd _ _ _ _ _ (@Yv _ _ (5) _ _ _ _ jV.nd rfl (.inl rfl) (@Qw _ (g) _ (10) _ _ _ 0 hr (by omega) (by rfl) (by rfl) (by first | exact .inl rfl | exact .inr (.inl rfl) | exact .inr (.inr rfl)) (by decide) (by decide)) (by rfl) (by first | exact .inl rfl | exact .inr rfl | assumption)) (@Yd _ _ _ _ _ (@Yv _ _ (6) _ _ _ _ jV.nd rfl (.inl rfl) (@Qw _ (g) _ (10) _ _ _ 2 hr (by omega) (by rfl) (by rfl) (by first | exact .inl rfl | exact .inr (.inl rfl) | exact .inr (.inr rfl)) (by decide) (by decide)) (by rfl) (by first | exact .inl rfl | exact .inr rfl | assumption)) (@Yd _ _ _ _ _ (@XE _ _ _ _ _ _ _ _ av rfl (@Um _ _ _ _ _ _ _ _ rfl Zq (@Ya _ _ _ _ _ (pv 4) Yc (by rfl)) (by rfl)) (@WD _ _ _ _ _ (2) rfl (@Xb _ _ _ _ _ (@YD _ _ (7) _ jV.nd rfl (.inl rfl) (by first | exact .inl rfl | exact .inr rfl | assumption)) (@Xb _ _ _ _ _ (@YD _ _ (8) _ jV.nd rfl (.inl rfl) (by first | exact .inl rfl | exact .inr rfl | assumption)) X9 (by rfl)) (by rfl)) (by rfl) (by rfl)) (@Yd _ _ _ _ _ (@Yv _ _ (9) _ _ _ _ jV.nd rfl (.inl rfl) (@Vy _ (g) _ (10) _ _ _ _ _ _ 1 hr (@Ya _ _ _ _ _ (pv 5) (@Ya _ _ _ _ _ (@Yr _ _ _ _ _ _ _ _ _ _ _ _ ZH hr (@Ya _ _ _ _ _ (pv 8) Yc (by rfl)) (by omega) (by rfl) (by rfl) (by decide) (by rfl) (by rfl)) Yc (by rfl)) (by rfl)) (by omega) (by rfl) (by rfl) (by first | exact .inl rfl | exact .inr (.inl rfl) | exact .inr (.inr rfl)) (by decide) (by decide) (by rfl) (by rfl)) (by rfl) (by first | exact .inl rfl | exact .inr rfl | assumption)) (@Yd _ _ _ _ _ (@Yv _ _ (10) _ _ _ _ jV.nd rfl (.inl rfl) (@Vy _ (g) _ (10) _ _ _ _ _ _ 3 hr (@Ya _ _ _ _ _ (pv 6) (@Ya _ _ _ _ _ (@Yr _ _ _ _ _ _ _ _ _ _ _ _ ZH hr (@Ya _ _ _ _ _ (pv 8) Yc (by rfl)) (by omega) (by rfl) (by rfl) (by decide) (by rfl) (by rfl)) Yc (by rfl)) (by rfl)) (by omega) (by rfl) (by rfl) (by first | exact .inl rfl | exact .inr (.inl rfl) | exact .inr (.inr rfl)) (by decide) (by decide) (by rfl) (by rfl)) (by rfl) (by first | exact .inl rfl | exact .inr rfl | assumption)) (@Yd _ _ _ _ _ (@Yy _ _ _ _ _ _ _ _ (@Xt _ _ _ _ (@YT _ _ _ (@Yr _ _ _ _ _ _ _ _ _ _ _ _ EY hr (@Ya _ _ _ _ _ (@Yu _ _ _ _ _ _ _ Yw (pv 9) Yh (fun _ _=>rfl)) (@Ya _ _ _ _ _ (@Yu _ _ _ _ _ _ _ Yw (pv 10) Yh (fun _ _=>rfl)) Yc (by rfl)) (by rfl)) (by omega) (by rfl) (by rfl) (by decide) (by rfl) (by rfl)) (by intro _;rfl))) (@Yf _ _ _ (@Yl _ _ _ _ (pv 7))) Yp) (@Yd _ _ _ _ _ (@Yv _ _ (5) _ _ _ _ jV.nd rfl (.inl rfl) (@Yu _ _ _ _ _ _ _ Yw (pv 9) Yh (fun _ _=>rfl)) (by rfl) (by first | exact .inl rfl | exact .inr rfl | assumption)) (@Yf _ _ _ (@Yv _ _ (6) _ _ _ _ jV.nd rfl (.inl rfl) (@Yu _ _ _ _ _ _ _ Yw (pv 10) Yh (fun _ _=>rfl)) (by rfl) (by first | exact .inl rfl | exact .inr rfl | assumption))))))) (by intro _;rfl)) (@Yf _ _ _ (@Yl _ _ _ _ Xk))))),?_⟩;obtain ⟨fd1,s1,ok1,Ss,hj1⟩:=hf1;obtain ⟨fd2,s2,ok2,Sv,hj2⟩:=hf2;obtain ⟨fb1,t1,Fb,Sw,hk1⟩:=hb1;obtain ⟨fb2,t2,Fd,Sx,hk2⟩:=hb2;have ul:=al.1;refine Ym fun R rr=>?_
 walk_at "rd";refine ⟨b1,fb1,[],t1,rfl,Fb.1,Fb.2,Sw,?_⟩;refine hk1 H _ (.refl _) fun H1 w1=>rr _ _ (Ym fun R rr=>?_)
 walk_at "rd";refine ⟨b2,fb2,[],t2,rfl,Fd.1,Fd.2,w1 _ _ Sx,?_⟩;refine hk2 H1 _ (WA w1) fun H2 w2=>rr _ _ (Ym fun R rr=>?_)
 have w12:=w1.trans w2;refine Vw (K:=g.K) (a:=D) (xs:=us) (fun i σ H'=>(∃ o7 o8 o9 Fe,σ=[some (.ref b1),some (.ref f1),some (.ref b2),some (.ref f2),some (.ref D),some (.int (i:Nat)),some (.int (i:Nat)),o7,o8,o9,Fe])/\Yg H H'/\∀ j:Nat,j<i->(j:Int)≠bad) (fun R r=>by walk_at "rd";exact r) ⟨⟨_,_,_,_,rfl⟩,w12,(fun j h=>by omega)⟩ (fun i σ H' _ ⟨_,sm,_⟩=>aA.of (sm _ _ hD)) ?_ ?_
 ·rintro i v σ H' T hx ⟨⟨o7,o8,o9,Fe,rfl⟩,sm,hno⟩ hT
  have hi:=(Η.mp hx).1;have hxi:xs[i]?=some (xs[i]'(by omega)):=Λ _;generalize xs[i]'(by omega)=x at hxi;have hd:=al.2 i v x hx hxi;have sT:=Yg.aj hT (.tup [.int (i:Int),v]);have sA:=sm.trans sT;refine ⟨T,_,rfl,aq.of Yb,rfl,_,_,rfl,_,_,rfl,rfl,Ym fun R rr=>?_⟩;walk_at "rd";refine ⟨f1,fd1,_,s1,rfl,ok1.1,ok1.2,sA _ _ Ss,?_⟩;walk_at "rd";refine ⟨v,lo,.dd x,rfl,(hd.tp (YX (Yn sA))).cq,trivial,by simp [dep],by simp [dep],fun v1 H3 s3 _ _ _=>?_⟩;have sB:=sA.trans s3;refine hj1 H3 i v1 _ (WA sB) fun T1 H4 s4 hT1=>rr _ _ (Ym fun R rr=>?_)
  have sC:=sB.trans s4;walk_at "rd";refine ⟨f2,fd2,_,s2,rfl,ok2.1,ok2.2,sC _ _ Sv,?_⟩;walk_at "rd";refine ⟨v,lo,.dd x,rfl,(hd.tp (YX (Yn sC))).cq,trivial,by simp [dep],by simp [dep],fun v2 H5 s5 _ _ _=>?_⟩;have sD:=sC.trans s5;refine hj2 H5 i v2 _ (WA sD) fun T2 H6 s6 hT2=>rr _ _ (Ym fun R rr=>?_)
  have sE:=sD.trans s6;have Fg:=s6 _ _ (s5 _ _ hT1);walk_at "rd";have a1:ans (-1) i=0:=if_neg (by omega);refine ⟨_,aq.of Fg,_,Yk (j:=1) rfl,_,aq.of hT2,_,Yk (j:=1) rfl,_,_,rfl,_,rfl,?_⟩;by_cases cb:(i:Int)=bad
  ·have a2:ans bad i=1:=if_pos cb
   have:=q H6 sE;rw [nO,if_pos (by omega),<- cb] at this
   exact Y3 (by rw [a1,a2];decide) this
  ·have a2:ans bad i=0:=if_neg cb
   refine YC (by rw [a1,a2];decide) (rr _ _ (Ym fun R rr=>?_));walk_at "rd";refine ⟨_,aq.of Fg,_,Yk (j:=0) rfl,rr _ _ ?_⟩;walk_at "rd";refine ⟨_,aq.of hT2,_,Yk (j:=0) rfl,?_⟩;refine ⟨rfl,sE,fun j hj=>?_⟩;by_cases e:j=i
   ·rw [e];exact cb
   ·exact hno j (by omega)
 ·rintro σ H' ⟨⟨o7,o8,o9,Fe,rfl⟩,sm,hno⟩
  refine rr _ _ ?_;walk_at "rd";have:=q H' sm;rw [nO,if_neg (fun h=>hno bad.toNat (by omega) (by omega))] at this
  exact this
def YfJ (fv vs:List V) (H:Hp) (Q:VK):Prop:=fv=[]/\vs=[]/\∀ H',Yg H H'->Q (.int 0) H'
theorem Z24 {k:Nat}   {f_ c_:Addr} {doc pm ctv:Α} {l:YB}  (hl:l.map (·.1)=([]:List Str)) (hnd:l.as.Nodup):bG g.P g.w g.K g.mg g.base dG (k+1) f_ (ZD l.cl c_ doc pm ctv) [] (fun vs H Q _=>Vc H f_ c_ (ZD l.cl c_ doc pm ctv) Zt l/\(YfJ) l.vs vs (off H l.as) fun v H'=>(∀ c∈l.as,H' c=none)->Q v (on H' H l.as)):=by
 refine Ld (N:=[]) (by rw [hl];exact Z22) hnd (fun vs H Q h=>by obtain ⟨jK,rfl,q⟩:=h;rfl) fun A outer s H vs Q hr h=>?_
 obtain ⟨jK,rfl,q⟩:=h;refine ⟨_,(@Yf _ _ _ (@Yl _ _ _ _ Yh)),?_⟩;walk_at "rd";exact q H (.refl _)
def Ygr (fv vs:List V) (H:Hp) (Q:VK):Prop:=∃ (bad:Int) (n:Nat) (v:V),fv=[.int bad]/\vs=[.int (n:Nat),v]/\∀ T H',Yg H H'->H T=none->H' T=some (.tup [.int ((n+1:Nat):Int),.int (ans bad n)])->Q (.ref T) H'
theorem Z2m {k:Nat}   {f_ c_:Addr} {doc pm ctv:Α} {l:YB} (dI:g.mg "int"=none) (hl:l.map (·.1)=(["_law_bad"]:List Str)) (hnd:l.as.Nodup):bG g.P g.w g.K g.mg g.base dG (k+1) f_ (ZJ l.cl c_ doc pm ctv) ["_law_state","_law_deed_here"] (fun vs H Q _=>Vc H f_ c_ (ZJ l.cl c_ doc pm ctv) Zv l/\(Ygr) l.vs vs (off H l.as) fun v H'=>(∀ c∈l.as,H' c=none)->Q v (on H' H l.as)):=by
 refine Ld (N:=["_law_state","_law_deed_here","_law_bad"]) (by rw [hl];exact Z2g) hnd (fun vs H Q h=>by obtain ⟨bad,n,v,jK,rfl,q⟩:=h;rfl) fun A outer s H vs Q hr h=>?_
 obtain ⟨bad,n,v,jK,rfl,q⟩:=h;refine ⟨_,(@Yf _ _ _ (@Yl _ _ _ _ (@YR _ _ _ _ _ (@Ya _ _ _ _ _ (@Ys _ _ _ _ _ _ _ _ Xa (pv 0) Yh) (@Ya _ _ _ _ _ (@Wz _ _ _ _ _ _ _ _ _ _ dI YcA (@Ya _ _ _ _ _ (@Xn _ _ _ _ _ _ _ _ YQ (pv 0) (pv 2) (Yq _)) Yc (by rfl)) (by decide +kernel) (by rfl) (by rfl) (by decide) (by decide) (by rfl) (by rfl)) Yc (by rfl)) (by rfl))))),?_⟩;rw [jK]
 show (_:TS) _ [some (.int (n:Nat)),some v,some (.int bad)] H
 walk_at "rd";refine .inr ⟨few (by decide),fun p gp=>q p _ (.aj gp _) gp ?_⟩;rw [Yb];rfl
abbrev fZ (x1:Addr) (bad:Int):YB:=[("_law_bad",x1,.int bad)]
theorem Ydv {g:Gx} {H:Hp} {f c:Addr} {doc pm ctv:Α} (h:Vc H f c (ZD [] c doc pm ctv) Zt []):WB g H f:=by
 have F:=Z24 (g:=g) (k:=9) (f_:=f) (c_:=c) (doc:=doc) (pm:=pm) (ctv:=ctv) (l:=[]) rfl (by simp [YB.as]);refine ⟨_,_,⟨F,fun us hl=>?_⟩,h.1,fun H1 Q n1 hk=>⟨(VE h n1).1,VE h n1,rfl,rfl,fun H' s hc=>hk _ fun b o e=>?_⟩⟩
 ·match us,hl with
  | [],_=>rfl
 ·exact s _ _ e
theorem Yci {g:Gx} {H:Hp} {f c x1:Addr} {bad:Int} {doc pm ctv:Α} (b1:g.mg "int"=none) (h:Vc H f c (ZJ (fZ x1 bad).cl c doc pm ctv) Zv (fZ x1 bad)):X3 g H f bad:=by
 have F:=Z2m (g:=g) (k:=9) (f_:=f) (c_:=c) (doc:=doc) (pm:=pm) (ctv:=ctv) (l:=fZ x1 bad) b1 rfl (by simp [YB.as]);refine ⟨_,_,⟨F,fun us hl=>?_⟩,h.1,fun H1 n v Q n1 hk=>⟨(VE h n1).1,VE h n1,bad,n,v,rfl,rfl,fun T H' s gT hT hc=>?_⟩⟩
 ·match us,hl with
  | [_,_],_=>rfl
 ·have out:T∉(fZ x1 bad).as:=fun hm=>by rw [hc _ hm] at hT;cases hT
  refine hk T _ (fun b o e=>?_) (by rw [Xd out];exact hT);by_cases hb:b∈(fZ x1 bad).as
  ·rw [V4 hb];exact e
  ·rw [Xd hb];exact s _ _ (by rw [YZ hb];exact e)
def XZ (H:Hp) (P:Addr):Prop:=H P=some (.aU #[])\/∃ c1 c2,H P=some (.aU #[db 698,db 4,.ref c1,db 701,db 4,.ref c2])/\H c1=some (fX c1 Zt)/\H c2=some (fX c2 Zv)
inductive Fi (g:Gx) (P:Addr) (vs:List V) (H:Hp) (Q:VK) (E_:XK):Prop
 | mk (bad:Int) (h0:vs=[.int bad]) (h1:XZ H P) (h2:∀ t b f H',WB g H' b->X3 g H' f bad->H' t=some (.tup [.ref b,.ref f])->XZ H' P->(∀ a o,a≠P->H a=some o->H' a=some o)->Q (.ref t) H')
theorem Qz {g:Gx} {H H3:Hp} {P b f cb cf t x1:Addr} {bad:Int} {e1 e2 e3 e4 e5 e6:Α} (b1:g.mg "int"=none)
  (kb:H3 b=some (cY b (ZD [] cb e1 e2 e3))) (O5:H3 cb=some (fX cb Zt))
  (kf:H3 f=some (cY f (ZJ (fZ x1 bad).cl cf e4 e5 e6))) (kcf:H3 cf=some (fX cf Zv)) (kt:H3 t=some (.tup [.ref b,.ref f]))
  (kT:H3 P=some (.aU #[db 698,db 4,.ref cb,db 701,db 4,.ref cf])) (keep:∀ a o,a≠P->H a=some o->H3 a=some o) (hc:∀ c∈(fZ x1 bad).as,H3 c=none) :
  WB g (lay H3 (fZ x1 bad)) b/\X3 g (lay H3 (fZ x1 bad)) f bad/\lay H3 (fZ x1 bad) t=some (.tup [.ref b,.ref f])/\XZ (lay H3 (fZ x1 bad)) P/\∀ a o,a≠P->H a=some o->lay H3 (fZ x1 bad) a=some o:=by
 have hin:=Ad (H:=H3) (l:=fZ x1 bad) (by simp [YB.as]);have out:∀ {a:Addr} {o:HO},H3 a=some o->lay H3 (fZ x1 bad) a=some o:=fun {a o} e=>by
  rw [WO fun hm=>?_]
  ·exact e
  ·rw [hc a hm] at e;cases e
 exact ⟨Ydv ⟨out kb,out O5,fun q hq=>by cases hq⟩,Yci b1 ⟨out kf,out kcf,hin⟩,out kt,.inr ⟨cb,cf,out kT,out O5,out kcf⟩,fun a o h1 h2=>out (keep a o h1 h2)⟩
theorem Yat  {aY aF:Addr} (R:g.gn "_law_thing" "_law_thing" rO ["_law_bad"] aY) (bm:Bm g.mg g.base) (jt:gt g.base aY aF) (dI:g.mg "int"=none):g.Fn (1) "_law_thing" ["_law_bad"] (Fi g aF):=by
 refine R.Lr Ck (fun vs H Q E h=>by obtain ⟨bad,rfl,ht,q⟩:=h;rfl) fun f_ A outer s H vs Q E hr h=>?_
 obtain ⟨bad,rfl,ht,q⟩:=h;refine ⟨_,(@Lk _ _ _ _ _ (@Lg _ _ _ _ _ _ _ _ _ _ 1 bm jt rfl rfl Ck.nd rfl (.inl rfl) (Eq.trans rfl WY) rfl rfl rfl (.inr rfl)) (@Lk _ _ _ _ _ (@Lg _ _ _ _ _ _ _ _ _ _ 2 bm jt rfl rfl Ck.nd rfl (.inl rfl) (Eq.trans rfl Ve) rfl rfl rfl (.inr rfl)) (@Lj _ _ _ _ (@YR _ _ _ _ _ (@Ya _ _ _ _ _ (pv 1) (@Ya _ _ _ _ _ (pv 2) Yc (by rfl)) (by rfl)))))),?_⟩;rcases ht with ht | ⟨c1,c2,ht,k1,k2⟩
 ·refine ⟨_,ht,trivial,.inl ⟨rfl,fun b cb fb g1 g2 g3 ⟨Sy,pm1,SJ,e1⟩=>?_⟩⟩
  subst e1;have bP:=Yj ht g1;have cP:=Yj ht g2;refine ⟨#[db 698,db 4,.ref cb],by rw [Ye bP,Ye cP,Yb];rfl,trivial,.inl ⟨rfl,fun f cf ff g4 g5 g6 ⟨SM,pm2,SN,e2⟩=>?_⟩⟩;subst e2;have fb:f≠b:=fun z=>by rw [z,Yb] at g4;cases g4
  rw [Ye fb] at g4
  have O6:f≠cb:=fun z=>by rw [z,Yb] at g4;cases g4
  rw [Ye O6] at g4
  have fP:f≠aF:=fun z=>by rw [z,Yb] at g4;cases g4
  rw [Ye fP] at g4
  have O7:cf≠b:=fun z=>by rw [z,Yb] at g5;cases g5
  rw [Ye O7] at g5
  have Fj:cf≠cb:=fun z=>by rw [z,Yb] at g5;cases g5
  rw [Ye Fj] at g5
  have O8:cf≠aF:=fun z=>by rw [z,Yb] at g5;cases g5
  rw [Ye O8] at g5
  refine ⟨few (by simp),fun t g7=>⟨fZ (s.heap.objs.size+1) bad,⟨by simp [YB.as],fun z hz=>?_⟩,fun hc=>?_⟩⟩
  ·simp only [Ψ,ax,or_false] at hz
   subst hz;exact ⟨0,rfl,rfl,rfl,rfl⟩
  ·have s7:=Yg.aj g7 (.tup [.ref b,.ref f])
   obtain ⟨r1,r2,r3,r4,r5⟩:=Qz (H:=H) (b:=b) (f:=f) (cb:=cb) (cf:=cf) (t:=t) dI (s7 _ _ (by rw [Ye (ψ fb),Ye (ψ O7),Ye (ψ bP),Yb];rfl)) (s7 _ _ (by rw [Ye (ψ O6),Ye (ψ Fj),Ye (ψ cP),Ye (ψ g3),Yb])) (s7 _ _ (by rw [Yb];rfl)) (s7 _ _ (by rw [Ye (ψ g6),Yb])) Yb (s7 _ _ (by rw [Ye (ψ fP),Ye (ψ O8),Yb];rfl)) (fun a o h1 h2=>s7 _ _ (by rw [Ye (Yj h2 g4),Ye (Yj h2 g5),Ye h1,Ye (Yj h2 g1),Ye (Yj h2 g2),Ye h1];exact h2)) hc;exact q t b f _ r1 r2 r3 r4 r5
 ·refine ⟨_,ht,trivial,.inr ⟨c1,rfl,fun b fb g1 ⟨Sy,pm1,SJ,e1⟩=>?_⟩⟩
  subst e1;have bP:=Yj ht g1;refine ⟨_,(Ye bP).trans ht,trivial,.inr ⟨c2,rfl,fun f ff g4 ⟨SM,pm2,SN,e2⟩=>?_⟩⟩;subst e2;have fb:f≠b:=fun z=>by rw [z,Yb] at g4;cases g4
  rw [Ye fb] at g4
  refine ⟨few (by simp),fun t g7=>⟨fZ (s.heap.objs.size+1) bad,⟨by simp [YB.as],fun z hz=>?_⟩,fun hc=>?_⟩⟩
  ·simp only [Ψ,ax,or_false] at hz
   subst hz;exact ⟨0,rfl,rfl,rfl,rfl⟩
  ·have s7:=Yg.aj g7 (.tup [.ref b,.ref f])
   have kk:∀ (z1 z2:HO) a o,H a=some o->upd (upd H b z1) f z2 a=some o:=fun z1 z2 a o h2=>by rw [Ye (Yj h2 g4),Ye (Yj h2 g1)];exact h2
   obtain ⟨r1,r2,r3,r4,r5⟩:=Qz (H:=H) (b:=b) (f:=f) (cb:=c1) (cf:=c2) (t:=t) dI (s7 _ _ (by rw [Ye (ψ fb),Yb];rfl)) (s7 _ _ (kk _ _ _ _ k1)) (s7 _ _ (by rw [Yb];rfl)) (s7 _ _ (kk _ _ _ _ k2)) Yb (s7 _ _ (kk _ _ _ _ ht)) (fun a o h1 h2=>s7 _ _ (kk _ _ _ _ h2)) hc;exact q t b f _ r1 r2 r3 r4 r5
def dh (l:List Dd):Nat:=l.length+(l.map dY).sum
theorem Wx (a b:List Dd):dh (a++b)=dh a+dh b:=by
 simp only [dh,Κ,am,List.sum_append];omega
theorem YfK {a:List Dd} (h:a≠[]):0<dh a:=by
 cases a with
 | nil=>exact absurd rfl h
 | cons x a=>simp only [dh,ai];omega
theorem YfL (xs:List Dd) (i c:Nat) (hi:i<xs.length) (hc:0<c):dh (xs.take i++xs.drop (i+c))<dh xs:=by
 have e:xs=xs.take i++((xs.drop i).take c++xs.drop (i+c)):=by
  rw [show xs.drop (i+c)=(xs.drop i).drop c by rw [List.drop_drop],List.take_append_drop,List.take_append_drop]
 have h2:0<dh ((xs.drop i).take c):=YfK fun z=>by
  have:=congrArg List.length z;rw [ν,aI,fk] at this
  omega
 have h3:=congrArg dh e;rw [Wx,Wx] at h3
 rw [Wx];omega
theorem Yeu:∀ o≤7,∀ s∈lH o,jW s<jW o/\s<=7:=by decide +kernel
theorem Yev {x s:Dd} (k:dB x) (h:s∈dst x):dY s<dY x/\dB s:=by
 rcases τ.mp h with h | h
 ·split at h
  ·cases h
  ·rename_i c
   obtain ⟨i,_,rfl⟩:=ae.mp h;have:∀ j,dY (sH j)=0/\dB (sH j):=fun j=>by
    match j with
    | 0=>exact ⟨by decide,trivial⟩
    | _+1=>exact ⟨(by decide:jW 0=0),ar _⟩
   have:=this i;exact ⟨by omega,this.2⟩
 ·cases x with
  | put o =>
   obtain ⟨s,hs,rfl⟩:=ae.mp h;exact Yeu o k s hs
  | ask=>cases h
def nxs (xs:List Dd):List (List Dd):=xK xs++stL xs
structure xO (xs l:List Dd):Prop where
 sz:dh l<dh xs
 ok:(∀ x∈xs,dB x)->∀ x∈l,dB x
 len:l.length<=xs.length
theorem O9 (xs:List Dd) (i c:Nat) (hi:i<xs.length) (hc:0<c):xO xs (xs.take i++xs.drop (i+c)):=⟨YfL xs i c hi hc,fun k x hx=>(by
 rcases τ.mp hx with hx | hx
 ·exact k x (eB hx)
 ·exact k x (gS hx)),by rw [Κ,ν,aI];omega⟩
theorem Pa (xs:List Dd):∀ (f c:Nat),∀ l∈VD f xs c,xO xs l
 | 0,c,l,h=>by cases h
 | f+1,c,l,h=>by
  by_cases h0:c=0
  ·subst h0;rw [Qy] at h;cases h
  ·rw [Qx (by omega)] at h
   rcases τ.mp h with h | h
   ·obtain ⟨i,hi,rfl⟩:=ae.mp h
    rw [gh] at hi
    exact O9 xs (i*c) c ((O2 (by omega)).1 i hi) (by omega)
   ·exact Pa xs f _ l h
theorem YfM {xs l:List Dd} (k:∀ x∈xs,dB x) (h:l∈nxs xs):xO xs l:=by
 rcases τ.mp h with h | h
 ·exact Pa xs _ _ l h
 rcases τ.mp h with h | h
 ·obtain ⟨i,hi,rfl⟩:=ae.mp h
  exact O9 xs i 1 (gh.mp hi) (by decide)
 ·obtain ⟨m,hm,h⟩:=List.mem_flatten.mp h
  obtain ⟨i,hi,rfl⟩:=ae.mp hm;obtain ⟨s,hs,rfl⟩:=ae.mp h;rw [gh,Θ] at hi
  have hx:xs[i]?=some xs[i]:=Λ hi;rw [eu,Υ,hx] at hs
  have d:=Yev (k _ (Χ hx)) hs;have e:xs=xs.take i++([xs[i]]++xs.drop (i+1)):=by
   rw [List.singleton_append,List.getElem_cons_drop,List.take_append_drop]
  refine ⟨?_,fun k x hx=>?_,?_⟩
  ·have h3:=congrArg dh e
   rw [Wx,Wx] at h3
   rw [Wx,Wx];have h4:dh [s]=1+dY s:=by simp [dh]
   have h5:dh [xs[i]]=1+dY xs[i]:=by simp [dh]
   omega
  ·rcases τ.mp hx with hx | hx
   ·rcases τ.mp hx with hx | hx
    ·exact k x (eB hx)
    ·rw [ε.mp hx];exact d.2
   ·exact k x (gS hx)
  ·rw [Κ,Κ,ν,aI,ω];omega
def brk (bad:Int) (xs:List Dd):Bool:=decide (0<=bad/\bad<(xs.length:Int))
theorem Ygs {bad:Int} {xs:List Dd} (h:brk bad xs=false):nO bad xs.length = .non:=by
 rw [nO,if_neg (of_decide_eq_false h)]
theorem Ygt {bad:Int} {xs:List Dd} (h:brk bad xs=true):nO bad xs.length = .int bad:=by
 rw [nO,if_pos (of_decide_eq_true h)]
def iw (l:List Dd):Prop:=l.length<=100/\∀ x∈l,dB x
def XW (g:Gx) (H:Hp) (f:Addr) (bad lo:Int):Prop:=∃ fd sp,xM g 30 f fd ["deeds"] sp/\H f=some (cY f fd) /\
 ∀ (H1:Hp) (D:Addr) (us:List V) (xs:List Dd) (Q:VK),NL H H1->H1 D=some (.lst us)->YN H1 lo us xs->iw xs->(∀ H',Yg H1 H'->Q (.bl !brk bad xs) H')->H1 f=some (cY f fd)/\sp [.ref D] H1 Q E0
theorem XW.nl {g:Gx} {H H':Hp} {f:Addr} {bad lo:Int} (h:XW g H f bad lo) (n:NL H H'):XW g H' f bad lo:=by
 obtain ⟨fd,sp,h1,h2,h3⟩:=h;exact ⟨fd,sp,h1,n.2 _ _ h2,fun H1 D us xs Q n1=>h3 H1 D us xs Q (n.trans n1)⟩
structure Ops (g:Gx) (H:Hp) (b1 f1 b2 f2:Addr) (bad:Int):Prop where
 b1:WB g H b1
 f1:X3 g H f1 (-1)
 b2:WB g H b2
 f2:X3 g H f2 bad
theorem Ops.nl {g:Gx} {H H':Hp} {b1 f1 b2 f2:Addr} {bad:Int} (h:Ops g H b1 f1 b2 f2 bad) (n:NL H H'):Ops g H' b1 f1 b2 f2 bad:=⟨h.b1.nl n,h.f1.nl n,h.b2.nl n,h.f2.nl n⟩
def Yew (g:Gx) (fv vs:List V) (H:Hp) (Q:VK):Prop:=∃ (b1 f1 b2 f2 D:Addr) (bad lo:Int) (us:List V) (xs:List Dd),fv=[.ref f2,.ref b2,.ref f1,.ref b1]/\vs=[.ref D]/\Ops g H b1 f1 b2 f2 bad /\
 H D=some (.lst us)/\YN H lo us xs/\iw xs/\∀ H',Yg H H'->Q (.bl !brk bad xs) H'
theorem Z47 {k:Nat}   {f_ c_:Addr} {pm ctv:Α} {l:YB} (jB:g.Fn k "apart" ["begin","done","model_begin","model_done","deeds"] (j8 g)) (hl:l.map (·.1)=(["model_done","model_begin","done","begin"]:List Str)) (hnd:l.as.Nodup):bG g.P g.w g.K g.mg g.base dG (k+1) f_ (vY l.cl c_ pm ctv) ["deeds"] (fun vs H Q _=>Vc H f_ c_ (vY l.cl c_ pm ctv) ZF l/\(Yew g) l.vs vs (off H l.as) fun v H'=>(∀ c∈l.as,H' c=none)->Q v (on H' H l.as)):=by
 refine Yf8 (N:=["deeds","model_done","model_begin","done","begin"]) (by rw [hl];exact Z40) hnd (fun vs H Q h=>by obtain ⟨b1,f1,b2,f2,D,bad,lo,us,xs,jK,rfl,op,hD,al,hl,q⟩:=h;rfl) fun A outer s H vs Q hr h=>?_
 obtain ⟨b1,f1,b2,f2,D,bad,lo,us,xs,jK,rfl,op,hD,al,hl,q⟩:=h;refine ⟨_,(@Xn _ _ _ _ _ _ _ _ VN (@Yr _ _ _ _ _ _ _ _ _ _ _ _ jB hr (@Ya _ _ _ _ _ (pv 4) (@Ya _ _ _ _ _ (pv 3) (@Ya _ _ _ _ _ (pv 2) (@Ya _ _ _ _ _ (pv 1) (@Ya _ _ _ _ _ (pv 0) Yc (by rfl)) (by rfl)) (by rfl)) (by rfl)) (by rfl)) (by omega) (by rfl) (by rfl) (by decide) (by rfl) (by rfl)) Xk (Yq _)),?_⟩;rw [jK];walk_at "rd";refine ⟨b1,f1,b2,f2,D,lo,bad,us,xs,rfl,op.b1,op.f1,op.b2,op.f2,hD,al,hl.1,fun H' s=>?_⟩;have:=q H' s
 cases h:brk bad xs with
 | false=>rw [h] at this;rw [Ygs h];exact this
 | true=>rw [h] at this;rw [Ygt h];exact this
inductive nQ (g:Gx) (vs:List V) (H:Hp) (Q:VK) (E_:XK):Prop
 | mk (f:Addr) (v:V) (bad lo:Int) (xs:List Dd) (h0:vs=[.ref f,v]) (h1:XW g H f bad lo) (h2:aM H lo v (.ds xs)) (h3:iw xs) (h4:∀ H',Yg H H'->Q (.bl !brk bad xs) H')
theorem Yex {k:Nat}  (R:g.Raw "holds" "holds" Qf ["judge","value"]) (ZH:g.Fn k "copied" ["thing"] (iu 4)) (hkc:30<=k):g.Fn (k+1) "holds" ["judge","value"] (nQ g):=by
 refine R.fn Yej (fun vs H Q E h=>by obtain ⟨f,v,bad,lo,xs,rfl,⟨fd,s1,ok,hf,hj⟩,hv,hl,q⟩:=h;rfl) fun f_ cdv A outer s H vs Q E hr h=>?_
 obtain ⟨f,v,bad,lo,xs,rfl,⟨fd,s1,ok,hf,hj⟩,hv,hl,q⟩:=h;refine ⟨_,(@Yf _ _ _ (@Yl _ _ _ _ (@Xn _ _ _ _ _ _ _ _ Yf3 (@Vy _ (g) _ (30) _ _ _ _ _ _ 0 hr (@Ya _ _ _ _ _ (@Yr _ _ _ _ _ _ _ _ _ _ _ _ ZH hr (@Ya _ _ _ _ _ (pv 1) Yc (by rfl)) (by omega) (by rfl) (by rfl) (by decide) (by rfl) (by rfl)) Yc (by rfl)) (by omega) (by rfl) (by rfl) (by first | exact .inl rfl | exact .inr (.inl rfl) | exact .inr (.inr rfl)) (by decide) (by decide) (by rfl) (by rfl)) XT (Yq _)))),?_⟩;walk_at "rd";refine ⟨f,fd,_,s1,rfl,ok.1,ok.2,hf,?_⟩;walk_at "rd";refine ⟨v,lo,.ds xs,rfl,hv,hl.1,by simp [dep],by simp [dep],fun v' H' sm fr f2 hv'=>?_⟩;obtain ⟨D,us,rfl,hD,al⟩:=Ua hv';refine hj H' D us xs _ (WA sm) hD al hl fun H2 s2=>⟨_,rfl,?_⟩
 rw [show ((!brk bad xs)==true) = !brk bad xs by cases brk bad xs<;>rfl];exact q H2 (sm.trans s2)
inductive xP (g:Gx) (vs:List V) (H:Hp) (Q:VK) (E_:XK):Prop
 | mk (f L:Addr) (bad lo:Int) (ys:List V) (Ls:List (List Dd)) (h0:vs=[.ref f,.ref L]) (h1:XW g H f bad lo) (h2:H L=some (.lst ys)) (h3:F2 (aM H lo) ys (Ls.map .ds)) (h4:(∀ l∈Ls,iw l)) (h5:(∀ H',Yg H H'->(∀ l∈Ls,brk bad l=false)->Q .non H')) (h6:∀ (i:Nat) y l H',Yg H H'->brk bad l=true->ys[i]?=some y->Ls[i]?=some l->Q y H')
theorem Z4x {k:Nat}  (R:g.Raw "first_breach" "first_breach" BL ["judge","values"]) (yD:g.Fn k "holds" ["judge","value"] (nQ g)):g.Fn (k+1) "first_breach" ["judge","values"] (xP g):=by
 refine R.fn M8 (fun vs H Q E h=>by obtain ⟨f,L,bad,lo,ys,Ls,rfl,hj,hL,f2,ok,q0,q1⟩:=h;rfl) fun f_ cdv A outer s H vs Q E hr h=>?_
 obtain ⟨f,L,bad,lo,ys,Ls,rfl,hj,hL,f2,ok,q0,q1⟩:=h;refine ⟨_,(@Yd _ _ _ _ _ (@XE _ _ _ _ _ _ _ _ av rfl (@Xe _ _ _ _ (pv 1)) (@YD _ _ (2) _ M8.nd rfl (.inl rfl) (by first | exact .inl rfl | exact .inr rfl | assumption)) (@Yf _ _ _ (@Yy _ _ _ _ _ _ _ _ (@Xt _ _ _ _ (@YT _ _ _ (@Yr _ _ _ _ _ _ _ _ _ _ _ _ yD hr (@Ya _ _ _ _ _ (pv 0) (@Ya _ _ _ _ _ (pv 2) Yc (by rfl)) (by rfl)) (by omega) (by rfl) (by rfl) (by decide) (by rfl) (by rfl)) (by intro _;rfl))) (@Yf _ _ _ (@Yl _ _ _ _ (pv 2))) Yp)) (by intro _;rfl)) (@Yf _ _ _ (@Yl _ _ _ _ Xk))),?_⟩;have hlen:=f2.len;rw [Θ] at hlen
 refine Ym fun R rr=>?_
 refine UI (K:=g.K) (xs:=ys) (fun c i σ H'=>c=L/\(∃ o,σ=[some (.ref f),some (.ref L),o])/\Yg H H'/\∀ l∈Ls.take i,brk bad l=false) (fun R r=>by walk_at "rd";exact r L _ ⟨rfl,⟨_,rfl⟩,.refl _,fun l h=>by cases h⟩) (fun c i σ H' _ ⟨e,_,s,_⟩=>by subst e;exact aA.of (s _ _ hL)) ?_ ?_
 ·rintro c i x σ H' hx ⟨rfl,⟨o,rfl⟩,sm,hn⟩
  have hi:=(Η.mp hx).1;have hm:Ls[i]?=some (Ls[i]'(by omega)):=Λ _;generalize Ls[i]'(by omega)=l at hm;have o1:=ok l (Χ hm);walk_at "rd";refine ⟨f,x,bad,lo,l,rfl,hj.nl (WA sm),(f2.get i x (.ds l) hx (by rw [Υ,hm];rfl)).same sm,o1,fun H1 s1=>?_⟩
  cases h:brk bad l with
  | false =>
   refine ⟨_,rfl,YC (by decide) ⟨sm.trans s1,fun l' hl'=>?_⟩⟩;rw [Xl hm] at hl'
   rcases τ.mp hl' with hl' | hl'
   ·exact hn l' hl'
   ·rw [ε.mp hl'];exact h
  | true=>exact ⟨_,rfl,Y3 rfl (q1 i x l H1 (sm.trans s1) h hx hm)⟩
 ·rintro c σ H' ⟨rfl,⟨o,rfl⟩,sm,hn⟩
  refine rr _ _ ?_;walk_at "rd";rw [hlen,dS] at hn
  exact q0 H' sm hn
def Pb (g:Gx) (H:Hp) (f:Addr) (lo:Int):Prop:=∃ fd sp,xM g 60 f fd ["breach"] sp/\H f=some (cY f fd) /\
 ∀ (H1:Hp) (D:Addr) (us:List V) (xs:List Dd) (Q:VK),Yg H H1->H1 D=some (.lst us)->YN H1 lo us xs->iw xs->(∀ L ys H',Yg H1 H'->H1 L=none->H' L=some (.lst ys)->F2 (aM H' lo) ys ((nxs xs).map .ds)->(∀ y∈ys,Fs H1 y)->Q (.ref L) H')->H1 f=some (cY f fd)/\sp [.ref D] H1 Q E0
inductive nR (g:Gx) (C:Addr) (vs:List V) (H:Hp) (Q:VK) (E:XK):Prop
 | mk (f D fn:Addr) (bad lo:Int) (us:List V) (xs:List Dd) (h0:vs=[.ref f,.ref D,.ref fn]) (h1:XW g H f bad lo) (h2:Pb g H fn lo) (h3:H D=some (.lst us)) (h4:YN H lo us xs) (h5:iw xs) (h6:dh xs<=1000) (h7:(∀ H',Yg H H'->brk bad xs=false->E (.ref C) none H')) (h8:∀ B y ys H',Yg H H'->H' B=some (.lst (y::ys))->brk bad xs=true->aM H' lo y (.ds xs)->Q (.ref B) H')
inductive SbV (lo:Int) (H:Hp) (xs:List Dd) (f D fn B:Addr) (a:Option (List Dd)) (σ:St) (H':Hp):Prop
 | mk (ys:List V) (v:V) (e:σ=[some (.ref f),some (.ref D),some (.ref fn),some (.ref B),some v]) (sm:Yg H H') (hB:H' B=some (.lst ys)) (no:a=none->v = .non) (at_:∀ l,a=some l->aM H' lo v (.ds l)/\v ≠ .ref B/\iw l/\dh l+ys.length<=dh xs) (h0:ys=[]->a=some xs) (hd:∀ y,ys[0]?=some y->aM H' lo y (.ds xs)/\y ≠ .ref B)
theorem Yav {k:Nat} {Z4:Addr} (R:g.Raw "shrunk_by" "shrunk_by" BP ["judge","value","values_next"]) (ZH:g.Fn k "copied" ["thing"] (iu 4)) (Pg:g.Fn k "first_breach" ["judge","values"] (xP g)) (hkc:60<=k) (cL:g.mg "NoBreach"=some (.ref Z4)) (eO:W.excIn g.K Z4 WU "ValueError.__new__"=true):g.fV (k+1) "shrunk_by" ["judge","value","values_next"] (nR g Z4):=by
 refine R.fnX vU (fun vs H Q E h=>by obtain ⟨f,D,fn,bad,lo,us,xs,rfl,hj,hn,hD,al,ok,hz,q0,q1⟩:=h;rfl) fun f_ cdv A outer s H vs Q E hr h=>?_
 obtain ⟨f,D,fn,bad,lo,us,xs,rfl,hj,hn,hD,al,ok,hz,q0,q1⟩:=h;refine ⟨_,(@Yd _ _ _ _ _ (PS.eZ (@Yv _ _ (3) _ _ _ _ vU.nd rfl (.inl rfl) (@Y0 _ _ _ _ Yc) (by rfl) (by first | exact .inl rfl | exact .inr rfl | assumption))) (@Yd _ _ _ _ _ (PS.eZ (@Yv _ _ (4) _ _ _ _ vU.nd rfl (.inl rfl) (@Yr _ _ _ _ _ _ _ _ _ _ _ _ Pg hr (@Ya _ _ _ _ _ (pv 0) (@Ya _ _ _ _ _ (@Y0 _ _ _ _ (@Ya _ _ _ _ _ (@Yr _ _ _ _ _ _ _ _ _ _ _ _ ZH hr (@Ya _ _ _ _ _ (pv 1) Yc (by rfl)) (by omega) (by rfl) (by rfl) (by decide) (by rfl) (by rfl)) Yc (by rfl))) Yc (Up _ _ _ _)) (by rfl)) (by omega) (by rfl) (by rfl) (by decide) (by rfl) (by rfl)) (by rfl) (by first | exact .inl rfl | exact .inr rfl | assumption))) (@Yd _ _ _ _ _ (@Yy _ _ _ _ _ _ _ _ (@Yt _ _ _ _ _ _ _ _ VN (pv 4) Xk (Yq _)) (@Yf _ _ _ (@YdR _ _ _ _ _ _ _ _ _ _ _ ⟨cL,eO⟩ Yf5 (@Ya _ _ _ _ _ Yx Yc (by rfl)) (by rfl) (by rfl) (by rfl) (by decide) (by rfl) (by rfl))) Yp) (@Yd _ _ _ _ _ (PS.eZ (@Wn _ _ _ _ _ _ av (@Yt _ _ _ _ _ _ _ _ V0 (pv 4) Xk (Yq _)) (@Yd _ _ _ _ _ (@Xc _ _ _ _ (@X4 _ _ _ _ _ _ _ _ _ _ _ _ bt bE ci Xv (pv 3) (@Ya _ _ _ _ _ (pv 4) Yc (by rfl)) (by rfl) (by rfl) (by rfl) (by rfl) (by rfl)) (by rfl)) (@Yf _ _ _ (@Yv _ _ (4) _ _ _ _ vU.nd rfl (.inl rfl) (@Yr _ _ _ _ _ _ _ _ _ _ _ _ Pg hr (@Ya _ _ _ _ _ (pv 0) (@Ya _ _ _ _ _ (@Vy _ (g) _ (60) _ _ _ _ _ _ 2 hr (@Ya _ _ _ _ _ (pv 4) Yc (by rfl)) (by omega) (by rfl) (by rfl) (by first | exact .inl rfl | exact .inr (.inl rfl) | exact .inr (.inr rfl)) (by decide) (by decide) (by rfl) (by rfl)) Yc (by rfl)) (by rfl)) (by omega) (by rfl) (by rfl) (by decide) (by rfl) (by rfl)) (by rfl) (by first | exact .inl rfl | exact .inr rfl | assumption)))))) (@Yf _ _ _ (PS.eZ (@Yl _ _ _ _ (pv 3)))))))),?_⟩;refine Ym fun R rr=>?_
 walk_at "rd";refine ⟨few (by decide),fun B gB=>rr _ _ (Ym fun R rr=>?_)⟩;have sB:=Yg.aj gB (.lst []);walk_at "rd";refine ⟨.ref D,lo,.ds xs,rfl,YN.cq (sB _ _ hD) (al.tp (YX (Yn sB))),ok.1,by simp [dep],by simp [dep],fun v1 H1 s1 fr1 f21 hv1=>⟨few (by decide),fun L gL=>?_⟩⟩;have s2:=Yg.aj gL (.lst [v1]);have sA:=(sB.trans s1).trans s2;refine ⟨f,L,bad,lo,[v1],[xs],rfl,hj.nl (WA sA),Yb,.cons (hv1.same s2) .nil,(fun l hl=>by rw [ε.mp hl];exact ok),fun H2 s3 e=>rr _ _ ?_,fun i y l H2 s3 e e1 e2=>rr _ _ ?_⟩
 ·walk_at "rd"
  exact ⟨few (by decide),q0 H2 (sA.trans s3) (e _ (.head _))⟩
 ·have hi:i=0:=by
   have:=(Η.mp e1).1;simpa using this
  subst hi
  cases Ε e1
  cases Ε e2
  have hv2:=hv1.same (s2.trans s3);have nB:v1 ≠ .ref B:=fun z=>by have:=fr1 B z;rw [Yb] at this;cases this
  obtain ⟨D1,iy,rfl,_,_⟩:=Ua hv2;refine Ym fun R rr=>?_
  walk_at "rd";refine rr _ _ (Ym fun R rr=>?_);have hB2:H2 B=some (.lst []):=s3 _ _ (s2 _ _ (s1 _ _ Yb));refine Wr (α:=Option (List Dd)) (SbV lo H xs f D fn B) (fun a=>a.isSome) (fun a=>match a with | none=>0 | some l=>dh l+1) (some xs) ⟨[],.ref D1,rfl,sA.trans s3,hB2,(fun z=>by cases z),(fun l z=>by cases z;exact ⟨hv2,nB,ok,by simp⟩),(fun _=>rfl),fun y h=>by cases h⟩ ?_ ?_ ?_
  ·rintro o σ H' ⟨ys,v,rfl,sm,hB,no,cur,h0,hd⟩ R r
   walk_at "rd";have:=r H' ⟨ys,v,rfl,sm,hB,no,cur,h0,hd⟩
   cases o with
   | none=>cases no rfl;exact this
   | some l=>obtain ⟨D2,cg,rfl,_,_⟩:=Ua (cur l rfl).1;exact this
  ·rintro o σ H' ⟨ys,v,rfl,sm,hB,no,cur,h0,hd⟩ ho
   cases o with
   | none=>cases ho
   | some l =>
    obtain ⟨c,nv,kY,sz⟩:=cur l rfl;obtain ⟨fd,sp,Ph,hfn,hnx⟩:=hn;refine Ym fun R rr=>?_
    walk_at "rd";refine ⟨.inl ⟨rfl,_,aA.of hB⟩,_,hB,few (by omega),rr _ _ ?_⟩;have tG:Yg H (upd H' B (.lst (ys++[v]))) := .cO gB sm _;have c':=c.own (by simp [dep]) hB nv (zs':=ys++[v]);have hd':∀ y,(ys++[v])[0]?=some y->aM (upd H' B (.lst (ys++[v]))) lo y (.ds xs)/\y ≠ .ref B:=fun y hy=>by
     cases ys with
     | nil=>cases Ε hy;cases h0 rfl;exact ⟨c',nv⟩
     | cons z zs=>cases Ε hy;have:=hd y rfl;exact ⟨this.1.own (by simp [dep]) hB this.2,this.2⟩
    obtain ⟨D2,cg,rfl,hD2,ju⟩:=Ua c';walk_at "rd";refine ⟨fn,fd,_,sp,rfl,Ph.1,Ph.2,tG _ _ hfn,?_⟩;walk_at "rd";refine hnx _ D2 cg l _ tG hD2 ju kY fun L zs H4 s4 gL hL g4 fz=>?_
    have Pj:=s4 _ _ (Yb (H:=H') (a:=B) (o := .lst (ys++[.ref D2])));have Fl:∀ l'∈nxs l,xO l l':=fun l' h=>YfM kY.2 h
    have ne:ys++[V.ref D2]≠[]:=by simp
    refine ⟨f,L,bad,lo,zs,nxs l,rfl,hj.nl (WA (tG.trans s4)),hL,g4,(fun l' h=>⟨ap (Fl l' h).len kY.1,(Fl l' h).ok kY.2⟩),fun H5 s5 e5=>?_,fun i y l' H5 s5 e5 e6 e7=>?_⟩
    ·exact ⟨none,⟨ys++[.ref D2],.non,rfl,(tG.trans s4).trans s5,s5 _ _ Pj,(fun _=>rfl),(fun l z=>by cases z),(fun z=>absurd z ne),fun y hy=>⟨((hd' y hy).1.same s4).same s5,(hd' y hy).2⟩⟩,Nat.succ_pos _⟩
    ·have ll:=Fl l' (Χ e7)
     have sz':=ll.sz;refine ⟨some l',⟨ys++[.ref D2],y,rfl,(tG.trans s4).trans s5,s5 _ _ Pj,(fun z=>by cases z),(fun l2 z=>?_),(fun z=>absurd z ne),fun y hy=>⟨((hd' y hy).1.same s4).same s5,(hd' y hy).2⟩⟩,(by show dh l'+1<dh l+1;omega)⟩
     cases z
     refine ⟨(g4.get i y (.ds l') e6 (by rw [Υ,e7];rfl)).same s5,fun z=>?_,⟨ap ll.len kY.1,ll.ok kY.2⟩,(by rw [Κ,ω];omega)⟩;have:=fz y (Χ e6) B z;rw [Yb] at this;cases this
  ·rintro o σ H' ⟨ys,v,rfl,sm,hB,no,cur,h0,hd⟩ ho
   cases o with
   | some l=>cases ho
   | none =>
    cases no rfl
    refine rr _ _ ?_;walk_at "rd"
    cases ys with
    | nil=>cases h0 rfl
    | cons y ys=>exact q1 B y ys H' sm hB e (hd y rfl).1
def Xi (H:Hp) (P:Addr):Prop:=H P=some (.aU #[])\/∃ c,H P=some (.aU #[db 204,db 11,.ref c])/\H c=some (fX c ZF)
theorem Xi.aU {H:Hp} {P:Addr} (h:Xi H P):∃ ps,H P=some (.aU ps):=by
 rcases h with h | ⟨c,h,_⟩
 ·exact ⟨_,h⟩
 ·exact ⟨_,h⟩
def uU (H H':Hp):Prop:=∀ b o,(∀ us,o ≠ .lst us)->H b=some o->H' b=some o
theorem Xi.uV {H H':Hp} {P:Addr} (h:Xi H P) (s:uU H H'):Xi H' P:=by
 rcases h with h | ⟨c1,h,h1⟩
 ·exact .inl (s _ _ (by intro _ z;cases z) h)
 ·exact .inr ⟨c1,s _ _ (by intro _ z;cases z) h,s _ _ (by intro _ z;cases z) h1⟩
theorem Pk {H H':Hp} (s:Yg H H'):uU H H':=fun b o _ e=>s _ _ e
theorem Xi.keep {H H':Hp} {P:Addr} (h:Xi H P) (s:Yg H H'):Xi H' P:=h.uV (Pk s)
theorem Xi.but {H H':Hp} {P P2:Addr} {ps:Array Α} (h:Xi H P) (hk:∀ a o,a≠P2->H a=some o->H' a=some o) (hP:H P2=some (.aU ps)) (n:P≠P2):Xi H' P:=by
 rcases h with h | ⟨c1,h,h1⟩
 ·exact .inl (hk _ _ n h)
 ·exact .inr ⟨c1,hk _ _ n h,hk _ _ (YE h1 hP (by intro z;cases z)) h1⟩
abbrev eV (x1 x2 x3 x4 b1 f1 b2 f2:Addr):YB:=[("model_done",x4,.ref f2),("model_begin",x3,.ref b2),("done",x2,.ref f1),("begin",x1,.ref b1)]
theorem YN.off {H:Hp} {l:YB} (hin:∀ p∈l,H p.2.1=some (WM p.2.1 p.2.2)) {lo:Int} {us:List V} {xs:List Dd} (h:YN H lo us xs):YN (off H l.as) lo us xs:=h.tp fun a vs e=>U8 hin e
theorem Yey {g:Gx} {H0 H:Hp} {f c x1 x2 x3 x4 b1 f1 b2 f2:Addr} {bad lo:Int} {pm ctv:Α} (F0:g.Fn 29 "apart" ["begin","done","model_begin","model_done","deeds"] (j8 g)) (nd:(eV x1 x2 x3 x4 b1 f1 b2 f2).as.Nodup)
  (h:Vc H f c (vY (eV x1 x2 x3 x4 b1 f1 b2 f2).cl c pm ctv) ZF (eV x1 x2 x3 x4 b1 f1 b2 f2)) (op:Ops g H0 b1 f1 b2 f2 bad) (n0:NL H0 H) (hc0:∀ a∈(eV x1 x2 x3 x4 b1 f1 b2 f2).as,H0 a=none):XW g H f bad lo:=by
 have F:=Z47 (g:=g) (k:=29) (f_:=f) (c_:=c) (pm:=pm) (ctv:=ctv) (l:=eV x1 x2 x3 x4 b1 f1 b2 f2) F0 rfl nd;refine ⟨_,_,⟨F,fun us hl=>?_⟩,h.1,fun H1 D us xs Q n1 hD al hl hq=>?_⟩
 ·match us,hl with
  | [_],_=>rfl
 ·have hin:=(VE h n1).2.2
  have nn:NL H0 (off H1 (eV x1 x2 x3 x4 b1 f1 b2 f2).as):=by
   refine ⟨fun b xs e=>?_,fun b φ e=>?_⟩
   ·rw [YZ fun hm=>by rw [hc0 b hm] at e;cases e]
    exact (n0.trans n1).1 _ _ e
   ·rw [YZ fun hm=>by rw [hc0 b hm] at e;cases e]
    exact (n0.trans n1).2 _ _ e
  have op':=op.nl nn;refine ⟨(VE h n1).1,VE h n1,b1,f1,b2,f2,D,bad,lo,us,xs,rfl,rfl,op',V5 hin hD (by intro φ z;cases z),al.off hin,hl,fun H' s hc=>hq _ fun b u e=>?_⟩;by_cases hb:b∈(eV x1 x2 x3 x4 b1 f1 b2 f2).as
  ·rw [V4 hb];exact e
  ·rw [Xd hb];exact s _ _ (by rw [YZ hb];exact e)
inductive Pn (g:Gx) (P:Addr) (vs:List V) (H:Hp) (Q:VK) (E_:XK):Prop
 | mk (b1 f1 b2 f2:Addr) (bad lo:Int) (h0:vs=[.ref b1,.ref f1,.ref b2,.ref f2]) (h1:Ops g H b1 f1 b2 f2 bad) (h2:Xi H P) (h3:∀ f H',XW g H' f bad lo->Xi H' P->(∀ a o,a≠P->H a=some o->H' a=some o)->Q (.ref f) H')
theorem QA {g:Gx} {H H3:Hp} {P f cf x1 x2 x3 x4 b1 f1 b2 f2:Addr} {bad lo:Int} {ps:Array Α} {pm ctv:Α} (F0:g.Fn 29 "apart" ["begin","done","model_begin","model_done","deeds"] (j8 g)) (nd:(eV x1 x2 x3 x4 b1 f1 b2 f2).as.Nodup)
  (op:Ops g H b1 f1 b2 f2 bad) (hT:H P=some (.aU ps)) (kf:H3 f=some (cY f (vY (eV x1 x2 x3 x4 b1 f1 b2 f2).cl cf pm ctv))) (kcf:H3 cf=some (fX cf ZF))
  (kT:H3 P=some (.aU #[db 204,db 11,.ref cf])) (keep:∀ a o,a≠P->H a=some o->H3 a=some o) (hc:∀ c∈(eV x1 x2 x3 x4 b1 f1 b2 f2).as,H3 c=none) :
  XW g (lay H3 (eV x1 x2 x3 x4 b1 f1 b2 f2)) f bad lo/\Xi (lay H3 (eV x1 x2 x3 x4 b1 f1 b2 f2)) P/\∀ a o,a≠P->H a=some o->lay H3 (eV x1 x2 x3 x4 b1 f1 b2 f2) a=some o:=by
 have hin:=Ad (H:=H3) nd;have out:∀ {a:Addr} {o:HO},H3 a=some o->lay H3 (eV x1 x2 x3 x4 b1 f1 b2 f2) a=some o:=fun {a o} e=>by
  rw [WO fun hm=>?_]
  ·exact e
  ·rw [hc a hm] at e;cases e
 have hc0:∀ a∈(eV x1 x2 x3 x4 b1 f1 b2 f2).as,H a=none:=fun a ha=>by
  have z:=hc a ha
  cases h:H a with
  | none=>rfl
  | some o =>
   exfalso;by_cases c:a=P
   ·subst c;rw [kT] at z;cases z
   ·rw [keep a o c h] at z;cases z
 have kk:∀ a o,a≠P->H a=some o->lay H3 (eV x1 x2 x3 x4 b1 f1 b2 f2) a=some o:=fun a o h1 h2=>out (keep a o h1 h2)
 exact ⟨Yey F0 nd ⟨out kf,out kcf,hin⟩ op (Kt.nl (WI kk hT)) hc0,.inr ⟨cf,out kT,out kcf⟩,kk⟩
theorem QK {k:Nat}  {aW au:Addr} (R:g.gn "deed_judge" "deed_judge" vO ["begin","done","model_begin","model_done"] aW) (bm:Bm g.mg g.base) (lU:gt g.base aW au) (jB:g.Fn 29 "apart" ["begin","done","model_begin","model_done","deeds"] (j8 g)):g.Fn (k+1) "deed_judge" ["begin","done","model_begin","model_done"] (Pn g au):=by
 refine R.Lr QJ (fun vs H Q E h=>by obtain ⟨b1,f1,b2,f2,bad,lo,rfl,op,ht,q⟩:=h;rfl) fun f_ A outer s H vs Q E hr h=>?_
 obtain ⟨b1,f1,b2,f2,bad,lo,rfl,op,ht,q⟩:=h;refine ⟨_,(@Lj _ _ _ _ (@Lh _ _ _ _ _ _ _ _ _ bm lU rfl rfl (Eq.trans rfl Uc) rfl)),?_⟩;have xQ:∀ n:Nat,(eV (n+1) (n+1+1) (n+1+1+1) (n+1+1+1+1) b1 f1 b2 f2).as.Nodup:=fun n=>by
  show bu [n+1+1+1+1,n+1+1+1,n+1+1,n+1]
  simp;omega
 rcases ht with ht | ⟨c1,ht,hc1⟩
 ·refine ⟨_,ht,trivial,.inl ⟨rfl,fun f cf ff g1 g2 g3 ⟨pm,ctv,e⟩=>⟨eV (s.heap.objs.size+1) (s.heap.objs.size+1+1) (s.heap.objs.size+1+1+1) (s.heap.objs.size+1+1+1+1) b1 f1 b2 f2,⟨xQ _,fun z hz=>?_⟩,fun hc=>?_⟩⟩⟩
  ·simp only [Ψ,ax,or_false] at hz
   rcases hz with rfl | rfl | rfl | rfl
   ·exact ⟨3,rfl,rfl,rfl,rfl⟩
   ·exact ⟨2,rfl,rfl,rfl,rfl⟩
   ·exact ⟨1,rfl,rfl,rfl,rfl⟩
   ·exact ⟨0,rfl,rfl,rfl,rfl⟩
  ·subst e
   have fP:=Yj ht g1;have cP:=Yj ht g2;obtain ⟨r1,r2,r3⟩:=QA (H:=H) (f:=f) (cf:=cf) jB (xQ _) op ht (by rw [Yb];rfl) (by rw [Ye (ψ g3),Yb]) (by rw [Ye fP,Ye cP,Yb];rfl) (fun a o h1 h2=>by rw [Ye (Yj h2 g1),Ye (Yj h2 g2),Ye h1];exact h2) hc;exact q f _ r1 r2 r3
 ·refine ⟨_,ht,trivial,.inr ⟨c1,rfl,fun f ff g1 ⟨pm,ctv,e⟩=>⟨eV (s.heap.objs.size+1) (s.heap.objs.size+1+1) (s.heap.objs.size+1+1+1) (s.heap.objs.size+1+1+1+1) b1 f1 b2 f2,⟨xQ _,fun z hz=>?_⟩,fun hc=>?_⟩⟩⟩
  ·simp only [Ψ,ax,or_false] at hz
   rcases hz with rfl | rfl | rfl | rfl
   ·exact ⟨3,rfl,rfl,rfl,rfl⟩
   ·exact ⟨2,rfl,rfl,rfl,rfl⟩
   ·exact ⟨1,rfl,rfl,rfl,rfl⟩
   ·exact ⟨0,rfl,rfl,rfl,rfl⟩
  ·subst e
   obtain ⟨r1,r2,r3⟩:=QA (H:=H) (f:=f) (cf:=c1) jB (xQ _) op ht (by rw [Yb];rfl) (by rw [Ye (Yj hc1 g1)];exact hc1) (by rw [Ye (Yj ht g1)];exact ht) (fun a o h1 h2=>by rw [Ye (Yj h2 g1)];exact h2) hc;exact q f _ r1 r2 r3
theorem Y7.many {H:Hp} {lo:Int} {a m:Addr} (h:Y7 H lo a .us) (hm:H m=some (.tup [.str "many",.ref a])):Y7 H lo m .aN:=⟨a,hm,h⟩
theorem Jf {H:Hp} {lo:Int} {v:V} {L:List (List Dd)} (h:aM H lo v (.dl L)):∃ D us,v = .ref D/\H D=some (.lst us)/\F2 (aM H lo) us (L.map .ds):=by
 obtain ⟨a,us,rfl,ha,hl,k⟩:=OJ h rfl;exact ⟨a,us,rfl,ha,.of hl k⟩
def YfN (K:Ι) (fv vs:List V) (H:Hp) (Q:VK):Prop:=∃ (B m D:Addr) (lo:Int) (us:List V) (xs:List Dd),fv=[.ref m,.ref B]/\vs=[.ref D]/\cX H lo B/\Y7 H lo m .aN/\H D=some (.lst us)/\YN H lo us xs/\iw xs /\
 ∀ L ys H',Yg H H'->H L=none->H' L=some (.lst ys)->F2 (aM H' lo) ys ((nxs xs).map .ds)->(∀ y∈ys,Fs H y)->Q (.ref L) H'
theorem Z3t {k:Nat}   {f_ c_:Addr} {pm ctv:Α} {l:YB} (Fo:g.Fn k "steps_of" ["book","shape","value"] (mL g.K)) (nU:g.Fn k "cuts" ["deeds"] (jA g.K)) (hl:l.map (·.1)=(["many","book"]:List Str)) (hnd:l.as.Nodup):bG g.P g.w g.K g.mg g.base dG (k+1) f_ (ZE l.cl c_ pm ctv) ["breach"] (fun vs H Q _=>Mv H f_ c_ (ZE l.cl c_ pm ctv) ZA l/\(YfN g.K) l.vs vs (off H l.as) fun v H'=>(∀ c∈l.as,H' c=none)->Q v (on H' H l.as)):=by
 refine YfC (N:=["breach","many","book"]) (by rw [hl];exact Z3i) hnd (fun vs H Q h=>by obtain ⟨B,m,D,lo,us,xs,jK,rfl,hB,hS,hD,al,ok,q⟩:=h;rfl) fun A outer s H vs Q hr h=>?_
 obtain ⟨B,m,D,lo,us,xs,jK,rfl,hB,hS,hD,al,ok,q⟩:=h;refine ⟨_,(@Ys _ _ _ _ _ _ _ _ Xu (@Yr _ _ _ _ _ _ _ _ _ _ _ _ nU hr (@Ya _ _ _ _ _ (pv 0) Yc (by rfl)) (by omega) (by rfl) (by rfl) (by decide) (by rfl) (by rfl)) (@Yr _ _ _ _ _ _ _ _ _ _ _ _ Fo hr (@Ya _ _ _ _ _ (pv 2) (@Ya _ _ _ _ _ (pv 1) (@Ya _ _ _ _ _ (pv 0) Yc (by rfl)) (by rfl)) (by rfl)) (by omega) (by rfl) (by rfl) (by decide) (by rfl) (by rfl))),?_⟩;walk_at "rd";rw [jK];refine ⟨lo,D,us,xs,rfl,hD,al,ok.1,fun L ys H1 s1 gL hL hyl fr f2=>?_⟩;refine ⟨B,lo,m,D,us,xs,rfl,hB.kt (Yn s1),hS.kt (Yn s1),s1 _ _ hD,al.tp (YX (Yn s1)),ok.2,ok.1,fun v' H2 s2 fr2 ff2 hc=>?_⟩;obtain ⟨Z,es,rfl,hE,fe⟩:=Jf hc;have hel:=fe.len;have hst:=(O1 xs ok.1).1;rw [Θ] at hel
 refine ⟨L,rfl,Z,rfl,_,s2 _ _ hL,_,hE,few (by omega),fun P gP=>q P _ _ ((s1.trans s2).trans (.aj gP _)) ((s1.trans s2).free gP) Yb ?_ fun y hy=>?_⟩
 ·rw [nxs,am]
  exact F2.app (f2.imp fun _ _ h=>h.same (s2.trans (.aj gP _))) (fe.imp fun _ _ h=>h.same (.aj gP _))
 ·rcases τ.mp hy with hy | hy
  ·exact fr y hy
  ·exact fun b z=>s1.free (ff2 Z es rfl hE y hy b z)
def Xs (H:Hp) (P:Addr):Prop:=H P=some (.aU #[])\/∃ c,H P=some (.aU #[db 633,db 35,.ref c])/\H c=some (fX c ZA)
theorem Xs.aU {H:Hp} {P:Addr} (h:Xs H P):∃ ps,H P=some (.aU ps):=by
 rcases h with h | ⟨c,h,_⟩
 ·exact ⟨_,h⟩
 ·exact ⟨_,h⟩
theorem Xs.uV {H H':Hp} {P:Addr} (h:Xs H P) (s:uU H H'):Xs H' P:=by
 rcases h with h | ⟨c1,h,h1⟩
 ·exact .inl (s _ _ (by intro _ z;cases z) h)
 ·exact .inr ⟨c1,s _ _ (by intro _ z;cases z) h,s _ _ (by intro _ z;cases z) h1⟩
theorem Xs.keep {H H':Hp} {P:Addr} (h:Xs H P) (s:Yg H H'):Xs H' P:=h.uV (Pk s)
theorem Xs.but {H H':Hp} {P P2:Addr} {ps:Array Α} (h:Xs H P) (hk:∀ a o,a≠P2->H a=some o->H' a=some o) (hP:H P2=some (.aU ps)) (n:P≠P2):Xs H' P:=by
 rcases h with h | ⟨c1,h,h1⟩
 ·exact .inl (hk _ _ n h)
 ·exact .inr ⟨c1,hk _ _ n h,hk _ _ (YE h1 hP (by intro z;cases z)) h1⟩
theorem aM.tl {H H':Hp} (t:Tp H H') (k:∀ b us,H b=some (.lst us)->H' b=some (.lst us)) {lo:Int} {v:V} {c:Cq} (h:aM H lo v c):aM H' lo v c:=by
 induction h with
 | dD i=>exact .dD i
 | st z=>exact .st z
 | tup a us c hc h hl _ ih=>exact .tup a us c hc (t _ _ h) hl ih
 | lst a us c hc h hl _ ih=>exact .lst a us c hc (k _ _ h) hl ih
theorem QB {H Hz:Hp} {l:YB} (h:W6 H Hz l):Yg H Hz:=fun a o e=>by
 rw [h.2 a fun hm=>?_]
 ·exact e
 ·obtain ⟨p,hp,rfl⟩:=Xf hm
  obtain ⟨_,_,n⟩:=h.1 p hp;rw [n] at e
  cases e
theorem Jg {l:YB} {H:Hp} (hz:l.Z H) {a:Addr} {o:HO} (e:H a=some o) (n:∀ x u,o ≠ .cM x u):a∉l.as:=fun hm=>by
 obtain ⟨p,hp,rfl⟩:=Xf hm;obtain ⟨x,z⟩:=hz p hp;rw [z] at e
 exact n _ _ (Ε e).symm
theorem X6 {l:YB} {H:Hp} (hz:l.Z H) {a:Addr} {o:HO} (e:H a=some o) (n:∀ x u,o ≠ .cM x u):off H l.as a=some o:=by rw [YZ (Jg hz e n)];exact e
theorem xR {l:YB} {H:Hp} (hz:l.Z H):Tp H (off H l.as):=fun b xs e=>X6 hz e (by intro _ _ z;cases z)
theorem SQ {l:YB} {H:Hp} (hz:l.Z H) {lo:Int} {v:V} {c:Cq} (h:aM H lo v c):aM (off H l.as) lo v c:=h.tl (xR hz) fun b us e=>X6 hz e (by intro _ _ z;cases z)
theorem Fp {P:Addr} {l:YB} {H:Hp} (hz:l.Z H) (h:Xi H P):Xi (off H l.as) P:=by
 rcases h with h | ⟨c,h,h1⟩
 ·exact .inl (X6 hz h (by intro _ _ z;cases z))
 ·exact .inr ⟨c,X6 hz h (by intro _ _ z;cases z),X6 hz h1 (by intro _ _ z;cases z)⟩
theorem Fq {P:Addr} {l:YB} {H:Hp} (hz:l.Z H) (h:Xs H P):Xs (off H l.as) P:=by
 rcases h with h | ⟨c,h,h1⟩
 ·exact .inl (X6 hz h (by intro _ _ z;cases z))
 ·exact .inr ⟨c,X6 hz h (by intro _ _ z;cases z),X6 hz h1 (by intro _ _ z;cases z)⟩
theorem YfO {l:YB} {H H':Hp} (s:Yg (off H l.as) H'):Yg H (on H' H l.as):=fun a o e=>by
 by_cases hm:a∈l.as
 ·rw [V4 hm];exact e
 ·rw [Xd hm];exact s _ _ (by rw [YZ hm];exact e)
theorem Pq {l:YB} {H H':Hp} (hc:∀ c∈l.as,H' c=none):Yg H' (on H' H l.as):=fun a o e=>by
 rw [Xd fun hm=>by rw [hc a hm] at e;cases e];exact e
abbrev j9 (x1 x2 m B:Addr):YB:=[("many",x2,.ref m),("book",x1,.ref B)]
theorem cX.z {l:YB} {H:Hp} (hz:l.Z H) {lo:Int} {B:Addr} (h:cX H lo B):cX (off H l.as) lo B:=by
 obtain ⟨p,m,h1,h2,h3⟩:=h.ex;exact ⟨p,m,X6 hz h1 (by intro _ _ z;cases z),X6 hz h2 (by intro _ _ z;cases z),h3.tp (xR hz)⟩
theorem Yez {g:Gx} {Hz:Hp} {f c x1 x2 m B:Addr} {lo:Int} {pm ctv:Α} (F0:g.Fn 59 "cuts" ["deeds"] (jA g.K)) (F1:g.Fn 59 "steps_of" ["book","shape","value"] (mL g.K)) (nd:(j9 x1 x2 m B).as.Nodup)
  (hf:Hz f=some (cY f (ZE (j9 x1 x2 m B).cl c pm ctv))) (hc:Hz c=some (fX c ZA)) (hz:(j9 x1 x2 m B).Z Hz) (hB:cX Hz lo B) (hS:Y7 Hz lo m .aN):Pb g Hz f lo:=by
 have F:=Z3t (g:=g) (k:=59) (f_:=f) (c_:=c) (pm:=pm) (ctv:=ctv) (l:=j9 x1 x2 m B) F1 F0 rfl nd;refine ⟨_,_,⟨F,fun us hl=>?_⟩,hf,fun H1 D us xs Q s1 hD al ok hk=>?_⟩
 ·match us,hl with
  | [_],_=>rfl
 ·have z1:=hz.keep s1
  refine ⟨s1 _ _ hf,⟨s1 _ _ hf,s1 _ _ hc,z1⟩,B,m,D,lo,us,xs,rfl,rfl,(hB.kt (Yn s1)).z z1,(hS.kt (Yn s1)).tp (xR z1),X6 z1 hD (by intro _ _ z;cases z),al.tp (xR z1),ok,fun L ys H' s' gL hL f2 fr hcc=>?_⟩;have out:∀ {a:Addr} {o:HO},H' a=some o->a∉(j9 x1 x2 m B).as:=fun e hm=>by rw [hcc _ hm] at e;cases e
  refine hk L ys _ (YfO s') (by rw [YZ (out hL)] at gL;exact gL) (Pq hcc _ _ hL) (f2.imp fun _ _ h=>h.same (Pq hcc)) fun y hy b z=>?_
  obtain ⟨i,hi⟩:=bc hy;have hl:=f2.len;rw [Θ] at hl
  have hlt:=(Η.mp hi).1;have h2:((nxs xs).map Cq.ds)[i]?=some (.ds ((nxs xs)[i]'(by omega))):=by rw [Υ,Λ];rfl
  obtain ⟨D',us',e,hD',_⟩:=Ua (f2.get i y _ hi h2);rw [z] at e
  cases e
  have:=fr y hy b z;rw [YZ (out hD')] at this
  exact this
inductive Gl (H:Hp) (lo:Int) (v:V) (xs:List Dd):Prop
 | mk (D:Addr) (us:List V) (e:v = .ref D) (h:H D=some (.lst us)) (al:YN H lo us xs) (ok:iw xs):Gl H lo v xs
theorem Gl.kt {H H':Hp} (k:Kt H H') {lo:Int} {v:V} {xs:List Dd} (h:Gl H lo v xs):Gl H' lo v xs:=by
 obtain ⟨D,us,e,h,al,ok⟩:=h;exact ⟨D,us,e,k.lst h,al.tp (YX k),ok⟩
theorem Vx.good {H:Hp} {lo:Int} {v:V} {r:Option Nat} (h:Vx H lo .aN v r) (hr:r.isSome=true):∃ xs,Gl H lo v xs:=by
 cases h with
 | dF v h=>cases hr
 | aN D us rs hD l hl h2 r hr' =>
  have ha:rs.all eS=true:=by
   rw [hr'] at hr
   split at hr
   ·assumption
   ·cases hr
  have:∀ (us:List V) (rs:List (Option Nat)),us.length=rs.length->(∀ (i:Nat) u r,us[i]?=some u->rs[i]?=some r->Vx H lo .us u r)->rs.all eS=true->∃ xs,YN H lo us xs/\∀ x∈xs,dB x:=by
   intro us
   induction us with
   | nil=>exact fun rs _ _ _=>⟨[],⟨rfl,fun i u x e=>by cases e⟩,fun x h=>by cases h⟩
   | cons u us ih =>
    intro rs hl h2 ha
    cases rs with
    | nil=>cases hl
    | cons r rs =>
     obtain ⟨a1,a2⟩:=List.all_cons (f:=eS)▸ha |> Bool.and_eq_true_iff.mp
     obtain ⟨xs,al,ok⟩:=ih rs (fN hl) (fun i u r e1 e2=>h2 (i+1) u r e1 e2) a2;have hu:=h2 0 u r rfl rfl
     cases hu with
     | us _ r' hp =>
      obtain ⟨x,hx,kx,_⟩:=hp.mJ (by cases r' with | none=>cases a1 | some n=>rfl);refine ⟨x::xs,(F2.cons hx al.f2).al,fun z hz=>?_⟩;rcases Ψ.mp hz with rfl | hz
      ·exact kx
      ·exact ok z hz
  obtain ⟨xs,al,ok⟩:=this us rs l h2 ha;exact ⟨xs,D,us,rfl,hD,al,by have:=al.1;omega,ok⟩
theorem Ygu {xs:List Dd} (ok:iw xs):dh xs<=1000:=by
 have:∀ xs:List Dd,(∀ x∈xs,dB x)->dh xs<=9*xs.length:=by
  intro xs
  induction xs with
  | nil=>exact fun _=>ar _
  | cons x xs ih =>
   intro k;have h1:=ih fun y hy=>k y (.tail _ hy)
   have h2:dY x<=8:=by
    have kx:=k x (.head _)
    cases x with
    | ask=>exact ar _
    | put o=>exact (by decide +kernel:∀ o≤7,jW o<=8) o kx
   have e:dh (x::xs)=1+dY x+dh xs:=by simp only [dh,ai,aS,List.sum_cons];omega
   rw [e,ai];omega
 have h1:=this xs ok.2;have h2:=ok.1;omega
def K2 (P P':Addr) (H H':Hp):Prop:=∀ a o,a≠P->a≠P'->H a=some o->H' a=some o
theorem K2.kt {P P':Addr} {H H':Hp} (h:K2 P P' H H') (h1:∃ ps,H P=some (.aU ps)) (h2:∃ ps,H P'=some (.aU ps)):Kt H H':=fun c o n e=>by
 obtain ⟨ps,h1⟩:=h1;obtain ⟨qs,h2⟩:=h2;exact h c o (YE e h1 (n _)) (YE e h2 (n _)) e
theorem YfP {l:YB} {H1 Hz H':Hp} (h:W6 H1 Hz l) (s:Yg Hz H'):Yg H1 (off H' l.as):=fun a o e=>by
 rw [YZ fun hm=>?_]
 ·exact s a o (QB h _ _ e)
 ·obtain ⟨p,hp,rfl⟩:=Xf hm
  obtain ⟨_,_,n⟩:=h.1 p hp;rw [n] at e
  cases e
inductive nW (g:Gx) (PJ PS CV CB:Addr) (vs:List V) (H:Hp) (Q:VK) (E:XK):Prop
 | mk (B a b1 f1 b2 f2:Addr) (v:V) (bad lo:Int) (r:Option Nat) (xs:List Dd) (h0:vs=[.ref B,.ref a,.ref b1,.ref f1,.ref b2,.ref f2,v]) (h1:cX H lo B) (h2:Y7 H lo a .us) (h3:Ops g H b1 f1 b2 f2 bad) (h4:Vx H lo .aN v r) (h5:(r.isSome=true->Gl H lo v xs)) (h6:Xi H PJ) (h7:Xs H PS) (h8:PJ≠PS) (h9:(r=none->∀ H' d,Yg H H'->H' d=none->E (.ref CV) (some d) (upd H' d (XY d [("value",v)])))) (h10:(r.isSome=true->brk bad xs=false->∀ H',K2 PJ PS H H'->Xi H' PJ->Xs H' PS->E (.ref CB) none H')) (h11:∀ L y ys H',K2 PJ PS H H'->H' L=some (.lst (y::ys))->r.isSome=true->brk bad xs=true->aM H' lo y (.ds xs)->Xi H' PJ->Xs H' PS->Q (.ref L) H')
theorem Z4y {k:Nat} {Z5 Z4 au aQ ao:Addr} (R:g.gn "shrunk_deeds" "shrunk_deeds" rM ["book","shape","begin","done","model_begin","model_done","deeds"] aQ) (bm:Bm g.mg g.base) (kj:gt g.base aQ ao) (nY:g.Fn k "deed_judge" ["begin","done","model_begin","model_done"] (Pn g au)) (Ez:g.fV k "refuse_no_value" ["book","shape","value"] (nu g.K Z5)) (Fo:g.Fn 59 "steps_of" ["book","shape","value"] (mL g.K)) (oO:g.fV k "shrunk_by" ["judge","value","values_next"] (nR g Z4)) (nU:g.Fn 59 "cuts" ["deeds"] (jA g.K)):g.fV (k+1) "shrunk_deeds" ["book","shape","begin","done","model_begin","model_done","deeds"] (nW g au ao Z5 Z4):=by
 refine R.fnX BW (fun vs H Q E h=>by obtain ⟨B,a,b1,f1,b2,f2,v,bad,lo,r,xs,rfl,hB,hS,op,hv,hg,tj,ts,np,qe,q0,q1⟩:=h;rfl) fun f_ A outer s H vs Q E hr h=>?_
 obtain ⟨B,a,b1,f1,b2,f2,v,bad,lo,r,xs,rfl,hB,hS,op,hv,hg,tj,ts,np,qe,q0,q1⟩:=h;refine ⟨_,(@Yd _ _ _ _ _ (PS.eZ (@Yv _ _ (7) _ _ _ _ BW.nd rfl (.inr rfl) (@YR _ _ _ _ _ (@Ya _ _ _ _ _ Yx (@Ya _ _ _ _ _ (pv 1) Yc (by rfl)) (by rfl))) (by rfl) (by first | exact .inl rfl | exact .inr rfl | assumption))) (@Yd _ _ _ _ _ (@Xc _ _ _ _ (@Q8 _ _ _ _ _ _ _ _ _ _ _ _ _ Ez hr Ky (@Ya _ _ _ _ _ (pv 0) (@Ya _ _ _ _ _ (pv 7) (@Ya _ _ _ _ _ (pv 6) Yc (by rfl)) (by rfl)) (by rfl)) (by omega) (by rfl) (by rfl) (by decide) (by rfl) (by rfl)) (by rfl)) (@Yd _ _ _ _ _ (PS.eZ (@Yv _ _ (8) _ _ _ _ BW.nd rfl (.inl rfl) (@Yr _ _ _ _ _ _ _ _ _ _ _ _ nY hr (@Ya _ _ _ _ _ (pv 2) (@Ya _ _ _ _ _ (pv 3) (@Ya _ _ _ _ _ (pv 4) (@Ya _ _ _ _ _ (pv 5) Yc (by rfl)) (by rfl)) (by rfl)) (by rfl)) (by omega) (by rfl) (by rfl) (by decide) (by rfl) (by rfl)) (by rfl) (by first | exact .inl rfl | exact .inr rfl | assumption))) (@Yf _ _ _ (@Yl _ _ _ _ (@Yeh _ _ _ _ _ _ _ _ _ _ _ _ _ _ _ _ _ _ _ _ _ oO hr (@Ya _ _ _ _ _ (pv 8) (@Ya _ _ _ _ _ (pv 6) (@Ya _ _ _ _ _ (@Lh _ _ _ _ _ _ _ _ _ bm kj rfl rfl (Eq.trans rfl VH) rfl) Yc (by rfl)) (by rfl)) (by rfl)) (by omega) (by rfl) (by decide) (by rfl) (by rfl))))))),?_⟩;refine Ym fun R rr=>?_
 walk_at "rd";refine ⟨few (by decide),fun m gm=>rr _ _ (Ym fun R rr=>?_)⟩;have sm:=Yg.aj gm (.tup [.str "many",.ref a]);have hM:Y7 (upd H m (.tup [.str "many",.ref a])) lo m .aN:=(hS.kt (Yn sm)).many Yb;walk_at "rd";refine ⟨B,lo,m,.aN,v,r,rfl,hB.kt (Yn sm),hM,hv.kt (Yn sm),fun hr H1 s1=>rr _ _ (Ym fun R rr=>?_),fun er H1 d s1 gd=>qe er H1 d (sm.trans s1) gd⟩;obtain ⟨D,us,rfl,hD,al,ok⟩:=hg hr;have hz:=Ygu ok;have sA:=sm.trans s1;walk_at "rd";refine ⟨b1,f1,b2,f2,bad,lo,rfl,op.nl (WA sA),tj.keep sA,fun f H2 jo xT k2=>rr _ _ ?_⟩;obtain ⟨psj,hpj⟩:=(tj.keep sA).aU;have Ft:=(ts.keep sA).but k2 hpj (ψ np);have tH:Kt H H2:=(Yn sA).trans (WI k2 hpj);have Pr:∀ n:Nat,(j9 (n+1) (n+1+1) m B).as.Nodup:=fun n=>by
  show bu [n+1+1,n+1]
  simp
 have fin:∀ (fn c:Addr) (pm ctv:Α) (H3:Hp),Kt H2 H3->(∀ a o,a≠ao->H2 a=some o->H3 a=some o)->Xi H3 au->Xs H3 ao->H3 fn=some (cY fn (ZE (j9 (s.heap.objs.size+1) (s.heap.objs.size+1+1) m B).cl c pm ctv))->H3 c=some (fX c ZA)->∃ l,
   XL (g.dX [ah "book",ah "shape",ah "begin",ah "done",ah "model_begin",ah "model_done",ah "deeds",ah "many",ah "judge"] (ah "shrunk_deeds") rM f_ (ζ aQ) A outer s H E) [some (.ref B),some (V.ref a),some (V.ref b1),some (V.ref f1),some (V.ref b2),some (V.ref f2),some (V.ref D),some (V.ref m),some (V.ref f)] l /\
    ((∀ (c:Addr),c∈l.as->H3 c=none)->∀ (Hz:Hp),W6 H3 Hz l->nR g Z4 [.ref f,.ref D,.ref fn] Hz (fun v H'=>Q v (off H' l.as)) fun c d H'=>E c d (off H' l.as)):=by
  intro fn c pm ctv H3 k3 kk3 iK iM hfn hc;refine ⟨j9 (s.heap.objs.size+1) (s.heap.objs.size+1+1) m B,⟨Pr _,fun z hz=>?_⟩,fun _ Hz hL=>?_⟩
  ·simp only [Ψ,ax,or_false] at hz
   rcases hz with rfl | rfl
   ·exact ⟨7,rfl,rfl,rfl,rfl⟩
   ·exact ⟨0,rfl,rfl,rfl,rfl⟩
  ·have sz:=QB hL
   have zz:=hL.z;have kz:Kt H Hz:=(tH.trans k3).trans (Yn sz);have kM:Kt (upd H m (.tup [.str "many",.ref a])) Hz:=((Yn s1).trans (WI k2 hpj)).trans (k3.trans (Yn sz));have kf:∀ {H'},Yg Hz H'->K2 au ao H (off H' _):=fun s' a o h1 h2 e=>YfP hL s' _ _ (kk3 _ _ h2 (k2 _ _ h1 (sA _ _ e)))
   refine ⟨f,D,fn,bad,lo,us,xs,rfl,jo.nl (Kt.nl (k3.trans (Yn sz))),Yez nU Fo (Pr _) (sz _ _ hfn) (sz _ _ hc) zz (hB.kt kz) (hM.kt kM),kz.lst hD,al.tp (YX kz),ok,hz,fun H' s' e=>q0 hr e _ (kf s') (Fp (zz.keep s') (iK.keep (sz.trans s'))) (Fq (zz.keep s') (iM.keep (sz.trans s'))),fun L y ys H' s' hL' hap hy=>?_⟩;have z':=zz.keep s';exact q1 L y ys _ (kf s') (X6 z' hL' (by intro _ _ z;cases z)) hr hap (SQ z' hy) (Fp z' (iK.keep (sz.trans s'))) (Fq z' (iM.keep (sz.trans s')))
 walk_at "rd";unfold Mw;walk_at "rd";rcases Ft with ht | ⟨c,ht,hc⟩
 ·refine ⟨_,ht,trivial,.inl ⟨rfl,fun fn c fd g1 g2 g3 ⟨pm,ctv,e⟩=>?_⟩⟩
  subst e;have n1:=Yj ht g1;have n2:=Yj ht g2;have kk:∀ (o1 o2 o3:HO) a o,a≠ao->H2 a=some o->upd (upd (upd H2 ao o1) c o2) fn o3 a=some o:=fun o1 o2 o3 a o h1 h2=>by rw [Ye (Yj h2 g1),Ye (Yj h2 g2),Ye h1];exact h2
  exact fin fn c pm ctv _ (WI (kk _ _ _) ht) (kk _ _ _) (xT.but (kk _ _ _) ht np) (.inr ⟨c,by rw [Ye n1,Ye n2,Yb];rfl,by rw [Ye (ψ g3),Yb]⟩) Yb (by rw [Ye (ψ g3),Yb])
 ·refine ⟨_,ht,trivial,.inr ⟨c,rfl,fun fn fd g1 ⟨pm,ctv,e⟩=>?_⟩⟩
  subst e;have su:=Yg.aj g1 (cY fn (ZE (j9 (s.heap.objs.size+1) (s.heap.objs.size+1+1) m B).cl c pm ctv));exact fin fn c pm ctv _ (Yn su) (fun a o _ e=>su _ _ e) (xT.keep su) (Xs.keep (.inr ⟨c,ht,hc⟩) su) Yb (su _ _ hc)
theorem Yck {g:TG} {tb:TS} {D:Ends} {σ:St} {H:Hp} {K:Ι} {tl:TE} (Pv:List V->Addr->Nat->St->Hp->Prop) (ha:∀ R:V->Hp->Prop,(∀ ys c H1,Pv ys c 0 σ H1->R (.ref c) H1)->tl σ H R) (hl:∀ ys c i σ H,i<=ys.length->Pv ys c i σ H->aA K H c ys)
  (hs:∀ ys c (i:Nat) x σ H,ys[i]?=some x->Pv ys c i σ H->g x σ H fun σ2 H2=>tb { D with nx:=Pv ys c (i+1),ct:=Pv ys c (i+1),bk:=D.nx } σ2 H2) (hd:∀ ys c σ H,Pv ys c ys.length σ H->D.nx σ H):Vt (Wf K tl) g tb D σ H:=by
 refine ha _ fun ys c H1 h0=>⟨c,rfl,⟨ys,hl ys c 0 σ H1 (ar _) h0⟩,?_⟩
 exact Ui (Pv ys c) h0 (hl ys c) (hs ys c) (hd ys c)
inductive Pu (K:Ι) (vs:List V) (H:Hp) (Q:VK) (E_:XK):Prop
 | mk (a:Addr) (ns:List Int) (k st:Nat) (h0:vs=[.ref a,.int k,.int st]) (h1:aA K H a (ns.map V.int)) (h2:ns.length<=63) (h3:k<=60) (h4:0<st) (h5:st<=60) (h6:∀ (x:Nat) H',x<2^210->Yg H H'->Q (.int x) H')
theorem Ycl  (R:g.Raw "_law_mix" "_law_mix" BX ["_law_script","_law_k","_law_step"]):g.Fn (1) "_law_mix" ["_law_script","_law_k","_law_step"] (Pu g.K):=by
 refine R.fn vV (fun vs H Q E h=>by obtain ⟨a,ns,k,st,rfl,hS,hl,hk,h0,hst,q⟩:=h;rfl) fun f_ cdv A outer s H vs Q E hr h=>?_
 obtain ⟨a,ns,k,st,rfl,hS,hl,hk,h0,hst,q⟩:=h;refine ⟨_,(@Yd _ _ _ _ _ (@Yv _ _ (3) _ _ _ _ vV.nd rfl (.inl rfl) (@Ys _ _ _ _ _ _ _ _ Xa (@Ys _ _ _ _ _ _ _ _ U0 (pv 1) (pv 1)) Yh) (by rfl) (by first | exact .inl rfl | exact .inr rfl | assumption)) (@Yd _ _ _ _ _ (@XE _ _ _ _ _ _ _ _ av rfl (@Xe _ _ _ _ (@Yc3 _ _ _ _ _ _ _ _ _ (pv 0) (pv 1) (pv 2))) (@YD _ _ (4) _ vV.nd rfl (.inl rfl) (by first | exact .inl rfl | exact .inr rfl | assumption)) (@Yf _ _ _ (@Yv _ _ (3) _ _ _ _ vV.nd rfl (.inl rfl) (@Ys _ _ _ _ _ _ _ _ XI (@Ys _ _ _ _ _ _ _ _ Xa (@Ys _ _ _ _ _ _ _ _ U0 (pv 3) Yh) (@Ys _ _ _ _ _ _ _ _ XI (pv 4) (@Ys _ _ _ _ _ _ _ _ Xa (@Ys _ _ _ _ _ _ _ _ Uy Yh Yh) Yh))) (@Ys _ _ _ _ _ _ _ _ Xa (@Ys _ _ _ _ _ _ _ _ Uy Yh Yh) Yh)) (by rfl) (by first | exact .inl rfl | exact .inr rfl | assumption))) (by intro _;rfl)) (@Yf _ _ _ (@Yl _ _ _ _ (pv 3))))),?_⟩;refine Ym fun R rr=>?_
 walk_at "rd";refine ⟨.inl (cm (m:=8) (n:=8) (by rw [ix];omega) (by rw [ix];omega)),rr _ _ (Ym fun R rr=>?_)⟩;refine Yck (K:=g.K) (fun ys c i σ H'=>(∀ v∈ys,v∈ns.map V.int)/\Yg H H'/\H' c=some (.lst ys)/\∃ (x:Nat) (o:Option V),σ=[some (.ref a),some (.int k),some (.int st),some (.int x),o]/\x<2^210) (fun R r=>?_) (fun ys c i σ H' _ h=>aA.of h.2.2.1) ?_ ?_
 ·walk_at "rd"
  refine ⟨by omega,by omega,_,hS,fun p ys hp hm hle=>r ys p _ ⟨hm,.aj hp _,Yb,k*k+3,none,by rw [ij,Int.natCast_mul];rfl,?_⟩⟩;have:k*k<=60*60:=Nat.mul_le_mul hk hk;exact Nat.lt_of_le_of_lt (show k*k+3<=3603 by omega) (by decide)
 ·rintro ys c i v σ H' hv ⟨hm,sm,hc,x,o,rfl,hx⟩
  obtain ⟨z,_,rfl⟩:=ae.mp (hm v (Χ hv));walk_at "rd";have hp:(0:Int)<10^df 61+51:=by decide +kernel
  obtain ⟨r,hr1,hr2⟩:=YfF ((x:Int)*48271+z%(10^df 60+7)) hp;refine ⟨.inl (cm (m:=210) (n:=16) (by rw [ix];exact hx) (by decide)),vZ,by decide +kernel,vZ,hp,hm,sm,hc,r,hr1,?_⟩;have hb:(10:Int)^df 61+51<((2^210:Nat):Int):=by decide +kernel
  exact Int.ofNat_lt.mp (Int.lt_trans hr2 hb)
 ·rintro ys c σ H' ⟨hm,sm,hc,x,o,rfl,hx⟩
  refine rr _ _ ?_;walk_at "rd";exact q x H' hx sm
theorem Yax  (R:g.Raw "_law_whole" "_law_whole" BZ ["_law_found"]) (dN:g.mg "bool"=none) (dI:g.mg "int"=none) (Z3:g.mg "isinstance"=none):g.Fn (1) "_law_whole" ["_law_found"] (VY):=by
 refine R.fn Yao (fun vs H Q E h=>by obtain ⟨a,rfl,q⟩:=h;rfl) fun f_ cdv A outer s H vs Q E hr h=>?_
 obtain ⟨a,rfl,q⟩:=h;refine ⟨_,(@Yf _ _ _ (@Yl _ _ _ _ (@XA _ _ _ _ _ _ _ (@YA _ _ _ _ _ _ _ _ _ _ Z3 YL (@Ya _ _ _ _ _ (pv 0) (@Ya _ _ _ _ _ (@Xq _ _ _ _ ("int") dI (by decide +kernel) (by rfl) (by rfl) (by decide) (by decide)) Yc (by rfl)) (by rfl)) (by decide +kernel) (by rfl) (by rfl) (by decide) (by decide) (by rfl) (by rfl)) (@XQ _ _ _ _ _ (@VJ _ _ _ _ (@YA _ _ _ _ _ _ _ _ _ _ Z3 YL (@Ya _ _ _ _ _ (pv 0) (@Ya _ _ _ _ _ (@Xq _ _ _ _ ("bool") dN (by decide +kernel) (by rfl) (by rfl) (by decide) (by decide)) Yc (by rfl)) (by rfl)) (by decide +kernel) (by rfl) (by rfl) (by decide) (by decide) (by rfl) (by rfl))))))),?_⟩;walk_at "rd"
 cases a with
 | non=>exact ⟨_,rfl,_,.non,false,rfl,q⟩
 | bl b=>exact ⟨_,rfl,_,.bl b,true,rfl,VQ ⟨_,rfl,_,.bl b,true,rfl,q⟩⟩
 | int i=>exact ⟨_,rfl,_,.int i,true,rfl,VQ ⟨_,rfl,_,.int i,false,rfl,q⟩⟩
 | str z=>exact ⟨_,rfl,_,.str z,false,rfl,q⟩
inductive Cz (N:Addr->Prop) (H H':Hp):Nat->Nat->V->V->Prop
 | non (k n:Nat):Cz N H H' k (n+1) .non .non
 | bl (k n:Nat) (b:Bool):Cz N H H' k (n+1) (.bl b) (.bl b)
 | int (k n:Nat) (i:Int):Cz N H H' k (n+1) (.int i) (.int i)
 | str (k n:Nat) (z:Str) (h:ce z=true):Cz N H H' k (n+1) (.str z) (.str z)
 | dg (k n:Nat) (a:Addr) (h:H a=some (.dK [])):Cz N H H' (k+1) (n+1) (.ref a) (.ref a)
 | tup (k n:Nat) (a b:Addr) (us us':List V) (ha:H a=some (.tup us)) (nb:N b) (hb:H' b=some (.tup us')) (hl:us.length=us'.length) (l:us.length<=100) (kk:∀ (i:Nat) u u',us[i]?=some u->us'[i]?=some u'->Cz N H H' 0 n u u'):Cz N H H' k (n+1) (.ref a) (.ref b)
 | lst (k n:Nat) (a b:Addr) (us us':List V) (ha:H a=some (.lst us)) (nb:N b) (hb:H' b=some (.lst us')) (hl:us.length=us'.length) (l:us.length<=100) (kk:∀ (i:Nat) u u',us[i]?=some u->us'[i]?=some u'->Cz N H H' (k - 1) n u u'):Cz N H H' k (n+1) (.ref a) (.ref b)
theorem Cz.map {N N':Addr->Prop} {H Ha H' Hb:Hp} (k1:Kt H Ha) (e:∀ b o,N b->(∀ ps,o ≠ .aU ps)->H' b=some o->N' b/\Hb b=some o) {k n:Nat} {v v':V} (h:Cz N H H' k n v v'):Cz N' Ha Hb k n v v':=by
 induction h with
 | non k n=>exact .non k n
 | bl k n b=>exact .bl k n b
 | int k n i=>exact .int k n i
 | str k n z h=>exact .str k n z h
 | dg k n a h=>exact .dg k n a (Dl k1 h)
 | tup k n a b us us' ha nb hb hl l _ ih =>
  have:=e b _ nb (by intro ps z;cases z) hb;exact .tup k n a b us us' (k1.tup ha) this.1 this.2 hl l ih
 | lst k n a b us us' ha nb hb hl l _ ih =>
  have:=e b _ nb (by intro ps z;cases z) hb;exact .lst k n a b us us' (k1.lst ha) this.1 this.2 hl l ih
theorem Cz.kt {N:Addr->Prop} {H Ha H' Hb:Hp} (k1:Kt H Ha) (k2:Kt H' Hb) {k n:Nat} {v v':V} (h:Cz N H H' k n v v'):Cz (fun _=>True) Ha Hb k n v v':=h.map k1 fun b o _ n e=>⟨trivial,k2 b o n e⟩
abbrev f9 (H:Hp) (k n:Nat) (v:V):Prop:=Cz (fun _=>True) H H k n v v
theorem f9.kt {H H':Hp} (k1:Kt H H') {k n:Nat} {v:V} (h:f9 H k n v):f9 H' k n v:=Cz.kt k1 k1 h
theorem Cz.back {N:Addr->Prop} {H H' H2:Hp} (s:Yg H H') {k n:Nat} {v v':V} (h:Cz N H' H2 k n v v'):f9 H k n v->Cz N H H2 k n v v':=by
 induction h with
 | non k n=>exact fun _ => .non k n
 | bl k n b=>exact fun _ => .bl k n b
 | int k n i=>exact fun _ => .int k n i
 | str k n z h=>exact fun _ => .str k n z h
 | dg k n a h =>
  intro c
  cases c with
  | dg _ _ _ h'=>exact .dg k n a h'
  | tup _ _ _ _ us us' ha=>rw [s _ _ ha] at h;cases h
  | lst _ _ _ _ us us' ha=>rw [s _ _ ha] at h;cases h
 | tup k n a b us us' ha nb hb hl l _ ih =>
  intro c
  cases c with
  | dg _ _ _ h'=>rw [s _ _ h'] at ha;cases ha
  | tup _ _ _ _ ws ws' ha' _ hb' _ _ kk =>
   rw [s _ _ ha'] at ha
   cases HO.tup.inj (Ε ha)
   rw [ha'] at hb'
   cases HO.tup.inj (Ε hb')
   exact .tup k n a b _ us' ha' nb hb hl l fun i u u' e1 e2=>ih i u u' e1 e2 (kk i u u e1 e1)
  | lst _ _ _ _ ws ws' ha'=>rw [s _ _ ha'] at ha;cases ha
 | lst k n a b us us' ha nb hb hl l _ ih =>
  intro c
  cases c with
  | dg _ _ _ h'=>rw [s _ _ h'] at ha;cases ha
  | tup _ _ _ _ ws ws' ha'=>rw [s _ _ ha'] at ha;cases ha
  | lst _ _ _ _ ws ws' ha' _ hb' _ _ kk =>
   rw [s _ _ ha'] at ha
   cases HO.lst.inj (Ε ha)
   rw [ha'] at hb'
   cases HO.lst.inj (Ε hb')
   exact .lst k n a b _ us' ha' nb hb hl l fun i u u' e1 e2=>ih i u u' e1 e2 (kk i u u e1 e1)
theorem Qh {K:Ι} {H:Hp} {m:Nat}:∀ {us us':List V},us.length=us'.length->(∀ (i:Nat) u u',us[i]?=some u->us'[i]?=some u'->∃ d,Den K H u d/\Den K H u' d/\d.depth<=m/\d.eqv d=true)->∃ ds,dZ K H us ds/\dZ K H us' ds/\aE ds<=m/\cz ds ds=true
 | [],[],_,_=>⟨[],.nil,.nil,by simp [aE],by simp [cz]⟩
 | u::us,u'::us',hl,k=>by
  obtain ⟨d,h1,h2,h3,h4⟩:=k 0 u u' rfl rfl;obtain ⟨ds,g1,g2,g3,g4⟩:=Qh (us:=us) (us':=us') (fN hl) fun i u u' e1 e2=>k (i+1) u u' e1 e2
  exact ⟨d::ds,.cons h1 g1,.cons h2 g2,by simp only [aE];omega,by rw [cz,h4,g4];rfl⟩
 | [],_::_,h,_=>by cases h
 | _::_,[],h,_=>by cases h
theorem Cz.den {K:Ι} {N:Addr->Prop} {H:Hp} {k n:Nat} {v v':V} (h:Cz N H H k n v v'):k=0->∃ d,Den K H v d/\Den K H v' d/\d.depth<=n/\d.eqv d=true:=by
 induction h with
 | non k n=>exact fun _=>⟨_,.non,.non,by simp [cw],rfl⟩
 | bl k n b=>exact fun _=>⟨_,.bl b,.bl b,by simp [cw],by simp [a8]⟩
 | int k n i=>exact fun _=>⟨_,.int i,.int i,by simp [cw],by simp [a8]⟩
 | str k n z h=>exact fun _=>⟨_,.str z h,.str z h,by simp [cw],by simp [a8]⟩
 | dg k n a h=>exact fun z=>by cases z
 | tup k n a b us us' ha nb hb hl l _ ih =>
  intro _;obtain ⟨ds,h1,h2,h3,h4⟩:=Qh (m:=n) hl fun i u u' e1 e2=>ih i u u' e1 e2 rfl
  exact ⟨_,.tup (aq.of ha) h1,.tup (aq.of hb) h2,by rw [cw];omega,by rw [a8];exact h4⟩
 | lst k n a b us us' ha nb hb hl l _ ih =>
  intro hk;obtain ⟨ds,h1,h2,h3,h4⟩:=Qh (m:=n) hl fun i u u' e1 e2=>ih i u u' e1 e2 (by omega)
  exact ⟨_,.lst (aA.of ha) h1,.lst (aA.of hb) h2,by rw [cw];omega,by rw [a8];exact h4⟩
theorem Cz.el {K:Ι} {N:Addr->Prop} {H:Hp} {n:Nat} {v v':V} (h:Cz N H H 1 n v v') (hn:n<=60):jU K H v v':=by
 have den:Cz N H H 0 n v v'->jU K H v v':=fun h=>by
  obtain ⟨d,h1,h2,h3,h4⟩:=h.den (K:=K) rfl;exact .den h1 h2 (by omega) h4
 cases h with
 | non _ n=>exact den (.non _ n)
 | bl _ n b=>exact den (.bl _ n b)
 | int _ n i=>exact den (.int _ n i)
 | str _ n z h=>exact den (.str _ n z h)
 | dg _ n a h=>exact .one a
 | tup _ n a b us us' ha nb hb hl l kk=>exact den (.tup _ n a b us us' ha nb hb hl l kk)
 | lst _ n a b us us' ha nb hb hl l kk=>exact den (.lst _ n a b us us' ha nb hb hl l kk)
theorem Cz.qb {K:Ι} {N:Addr->Prop} {H:Hp} {n:Nat} {v v':V} (h:Cz N H H 2 n v v') (hn:n<=60):lD K H v v':=by
 have den:Cz N H H 0 n v v'->lD K H v v':=fun h=>by
  obtain ⟨d,h1,h2,h3,h4⟩:=h.den (K:=K) rfl;exact .den h1 h2 (by omega) h4
 cases h with
 | non _ n=>exact den (.non _ n)
 | bl _ n b=>exact den (.bl _ n b)
 | int _ n i=>exact den (.int _ n i)
 | str _ n z h=>exact den (.str _ n z h)
 | dg _ n a h=>exact .dg a h
 | tup _ n a b us us' ha nb hb hl l kk=>exact den (.tup _ n a b us us' ha nb hb hl l kk)
 | lst _ n a b us us' ha nb hb hl l kk=>exact .lst (aA.of ha) (aA.of hb) hl fun i x y e1 e2=>(kk i x y e1 e2).el (by omega)
inductive gH (m:Nat) (vs:List V) (H:Hp) (Q:VK) (E_:XK):Prop
 | mk (v:V) (k:Nat) (h0:vs=[v]) (h1:f9 H k m v) (h2:∀ v' H',Yg H H'->Cz (fun b=>H b=none) H H' k m v v'->Q v' H')
theorem YeA {vs:List V} {H:Hp} {Q:VK} {E:XK} (h:gH 0 vs H Q E):False:=by
 obtain ⟨v,k,_,h,_⟩:=h
 cases h
theorem xU {k:Nat}  (R:g.Raw "_law_copy" "_law_copy" Ca ["_law_value"]) (Zz:g.Fn k "_law_copy" ["_law_value"] (gH m)) (Z3:g.mg "isinstance"=none) (aP:g.mg "list"=none) (Zf:g.mg "tuple"=none):g.Fn (k+1) "_law_copy" ["_law_value"] (gH (m+1)):=by
 refine R.fn YaK (fun vs H Q E h=>by obtain ⟨v,kd,rfl,hv,q⟩:=h;rfl) fun f_ cdv A outer s H vs Q E hr h=>?_
 obtain ⟨v,kd,rfl,hv,q⟩:=h;refine ⟨_,(@Yd _ _ _ _ _ (@Yy _ _ _ _ _ _ _ _ (@YT _ _ _ (@YA _ _ _ _ _ _ _ _ _ _ Z3 YL (@Ya _ _ _ _ _ (pv 0) (@Ya _ _ _ _ _ (@Xq _ _ _ _ ("list") aP (by decide +kernel) (by rfl) (by rfl) (by decide) (by decide)) Yc (by rfl)) (by rfl)) (by decide +kernel) (by rfl) (by rfl) (by decide) (by decide) (by rfl) (by rfl)) (by intro _;rfl)) (@Yf _ _ _ (@Yl _ _ _ _ (@XO _ _ _ _ _ _ _ ([none]) ((["_law_thing_here"]:List Str)) _ (YW 0) _ _ (.own .nil) rfl (@Xe _ _ _ _ (pv 0)) (fun cl C s₀ H₀ fp pn=>(@YD _ _ (0) _ (show bu (["_law_thing_here"]:List Str) by decide +kernel) rfl (.inl rfl) (.inr rfl))) (fun cl C s₀ H₀ fp pn=>Xp) (fun cl C s₀ H₀ fp pn=>(@Yr _ _ _ _ _ _ _ _ _ _ _ _ Zz hr (@Ya _ _ _ _ _ (pv 0) Yc (by rfl)) (by omega) (by rfl) (by rfl) (by decide) (by rfl) (by rfl))) (by intro x hx;simp at hx) (by rfl) (by decide) (by decide +kernel) (by intro _;rfl)))) Yp) (@Yd _ _ _ _ _ (@Yy _ _ _ _ _ _ _ _ (@YT _ _ _ (@YA _ _ _ _ _ _ _ _ _ _ Z3 YL (@Ya _ _ _ _ _ (pv 0) (@Ya _ _ _ _ _ (@Xq _ _ _ _ ("tuple") Zf (by decide +kernel) (by rfl) (by rfl) (by decide) (by decide)) Yc (by rfl)) (by rfl)) (by decide +kernel) (by rfl) (by rfl) (by decide) (by decide) (by rfl) (by rfl)) (by intro _;rfl)) (@Yf _ _ _ (@Yl _ _ _ _ (@Wz _ _ _ _ _ _ _ _ _ _ Zf Xz (@Ya _ _ _ _ _ (@XO _ _ _ _ _ _ _ ([none]) ((["_law_thing_here"]:List Str)) _ (YW 0) _ _ (.own .nil) rfl (@QX _ _ _ _ (pv 0)) (fun cl C s₀ H₀ fp pn=>(@YD _ _ (0) _ (show bu (["_law_thing_here"]:List Str) by decide +kernel) rfl (.inl rfl) (.inr rfl))) (fun cl C s₀ H₀ fp pn=>Xp) (fun cl C s₀ H₀ fp pn=>(@Yr _ _ _ _ _ _ _ _ _ _ _ _ Zz hr (@Ya _ _ _ _ _ (pv 0) Yc (by rfl)) (by omega) (by rfl) (by rfl) (by decide) (by rfl) (by rfl))) (by intro x hx;simp at hx) (by rfl) (by decide) (by decide +kernel) (by intro _;rfl)) Yc (by rfl)) (by decide +kernel) (by rfl) (by rfl) (by decide) (by decide) (by rfl) (by rfl)))) Yp) (@Yf _ _ _ (@Yl _ _ _ _ (pv 0))))),?_⟩;generalize hn:m+1=n at hv q;generalize hw:v=w at hv;walk_at "rd"
 cases hv with
 | non k n=>subst hw;exact ⟨_,rfl,_,.non,false,rfl,YC (by decide) ⟨_,rfl,_,.non,false,rfl,YC (by decide) (q _ H (.refl _) (.non _ _))⟩⟩
 | bl k n b=>subst hw;exact ⟨_,rfl,_,.bl b,false,rfl,YC (by decide) ⟨_,rfl,_,.bl b,false,rfl,YC (by decide) (q _ H (.refl _) (.bl _ _ b))⟩⟩
 | int k n i=>subst hw;exact ⟨_,rfl,_,.int i,false,rfl,YC (by decide) ⟨_,rfl,_,.int i,false,rfl,YC (by decide) (q _ H (.refl _) (.int _ _ i))⟩⟩
 | str k n z h=>subst hw;exact ⟨_,rfl,_,.str z,false,rfl,YC (by decide) ⟨_,rfl,_,.str z,false,rfl,YC (by decide) (q _ H (.refl _) (.str _ _ z h))⟩⟩
 | dg k n a h=>subst hw;exact ⟨_,rfl,_,.dK h,false,rfl,YC (by decide) ⟨_,rfl,_,.dK h,false,rfl,YC (by decide) (q _ H (.refl _) (.dg _ _ a h))⟩⟩
 | tup k n a b us us' ha nb hb hl l kk =>
  cases hw
  rw [ha] at hb
  cases HO.tup.inj (Ε hb)
  cases fN hn
  refine ⟨_,rfl,_,.tup ha,false,rfl,YC (by decide) ⟨_,rfl,_,.tup ha,true,rfl,Y3 rfl ?_⟩⟩;refine Qs (K:=g.K) (b:=a) (xs:=us) (fun D i y Hx=>∀ x,us[i]?=some x->Cz (fun b=>H b=none/\b≠D) H Hx 0 m x y) (fun D i y Ha Hb h s x hx=>(h x hx).map (Yn (.refl _)) fun b o nb _ e=>⟨nb,s _ _ e⟩) (fun D i y Hx zs zs' h hD x hx=>(h x hx).map (Yn (.refl _)) fun b o nb _ e=>⟨nb,by rw [Ye nb.2];exact e⟩) (fun R r=>by walk_at "rd";exact r) (aq.of ha) (by omega) ?_ ?_
  ·intro D i x H' zs hx sm hd R r
   walk_at "rd";refine ⟨x,0,rfl,f9.kt (Yn sm) (kk i x x hx hx),fun v' aJ s'' hv'=>r v' aJ s'' fun x' hx'=>?_⟩;rw [hx] at hx'
   cases Ε hx'
   exact (hv'.back sm (kk i x x hx hx)).map (Yn (.refl _)) fun b o nb _ e=>⟨⟨sm.free nb,fun z=>by rw [z,hd] at nb;cases nb⟩,e⟩
  ·intro D ys H' hD sm hd tu hr
   refine ⟨D,rfl,_,.inl ⟨aA.of hd,fun l' gl=>?_⟩⟩;have s2:=Yg.aj gl (.tup ys);exact q (.ref l') _ (sm.trans s2) (.tup _ _ a l' us ys ha (sm.free gl) Yb tu.symm l fun i u u' e1 e2=>(hr i u' e2 u e1).map (Yn (.refl _)) fun b o nb _ e=>⟨nb.1,s2 _ _ e⟩)
 | lst k n a b us us' ha nb hb hl l kk =>
  cases hw
  rw [ha] at hb
  cases HO.lst.inj (Ε hb)
  cases fN hn
  refine ⟨_,rfl,_,.lst ha,true,rfl,Y3 rfl ?_⟩;refine KQ (K:=g.K) (b:=a) (xs:=us) (fun D i y Hx=>∀ x,us[i]?=some x->Cz (fun b=>H b=none/\b≠D) H Hx (kd - 1) m x y) (fun D i y Ha Hb h s x hx=>(h x hx).map (Yn (.refl _)) fun b o nb _ e=>⟨nb,s _ _ e⟩) (fun D i y Hx zs zs' h hD x hx=>(h x hx).map (Yn (.refl _)) fun b o nb _ e=>⟨nb,by rw [Ye nb.2];exact e⟩) (fun R r=>by walk_at "rd";exact r) (aA.of ha) (by omega) ?_ ?_
  ·intro D i x H' zs hx sm hd R r
   walk_at "rd";refine ⟨x,kd - 1,rfl,f9.kt (Yn sm) (kk i x x hx hx),fun v' aJ s'' hv'=>r v' aJ s'' fun x' hx'=>?_⟩;rw [hx] at hx'
   cases Ε hx'
   exact (hv'.back sm (kk i x x hx hx)).map (Yn (.refl _)) fun b o nb _ e=>⟨⟨sm.free nb,fun z=>by rw [z,hd] at nb;cases nb⟩,e⟩
  ·intro D ys H' hD sm hd tu hr
   exact q (.ref D) _ sm (.lst _ _ a D us ys ha hD hd tu.symm l fun i u u' e1 e2=>(hr i u' e2 u e1).map (Yn (.refl _)) fun b o nb _ e=>⟨nb.1,e⟩)
inductive Px (vs:List V) (H:Hp) (Q:VK) (E_:XK):Prop
 | mk (c:Nat) (lo:Int) (h0:vs=[.int (c:Nat),.int lo]) (h1:∀ v x H',Yg H H'->Fs H v->Y6 H' lo v x->dB x->Q v H')
theorem YaU  (R:g.Raw "_law_deed" "_law_deed" Ce ["_law_cell","_law_low"]):g.Fn (1) "_law_deed" ["_law_cell","_law_low"] (Px):=by
 refine R.fn YaL (fun vs H Q E h=>by obtain ⟨c,lo,rfl,q⟩:=h;rfl) fun f_ cdv A outer s H vs Q E hr h=>?_
 obtain ⟨c,lo,rfl,q⟩:=h;refine ⟨_,(@Yd _ _ _ _ _ (@Yy _ _ _ _ _ _ _ _ (@Yt _ _ _ _ _ _ _ _ YQ (@Ys _ _ _ _ _ _ _ _ XI (pv 0) Yh) Yh (Yq _)) (@Yf _ _ _ (@Yl _ _ _ _ (@YR _ _ _ _ _ (@Ya _ _ _ _ _ Yx (@Ya _ _ _ _ _ (@YR _ _ _ _ _ Yc) Yc (YY _ _ _ _ _)) (by rfl))))) Yp) (@Yf _ _ _ (@Yl _ _ _ _ (@YR _ _ _ _ _ (@Ya _ _ _ _ _ Yx (@Ya _ _ _ _ _ (@Ys _ _ _ _ _ _ _ _ Xa (pv 1) (@Ys _ _ _ _ _ _ _ _ XI (@Ys _ _ _ _ _ _ _ _ Wp (pv 0) Yh) Yh)) Yc (by rfl)) (by rfl)))))),?_⟩;walk_at "rd";refine ⟨by decide,UX (fun _=>⟨few (by decide),fun p gp=>⟨few (by decide),fun p1 g1=>?_⟩⟩) (fun _=>⟨Wa (by decide) (by decide),by decide,few (by decide),fun p gp=>?_⟩)⟩
 ·have s1:=Yg.aj gp (.tup [])
  have s2:=Yg.aj g1 (.tup [.str "ask",.ref p]);exact q (.ref p1) .ask _ (s1.trans s2) (fun b z=>by cases z;exact s1.free g1) ⟨p1,p,rfl,Yb,s2 _ _ Yb⟩ trivial
 ·obtain ⟨o,ho,eo⟩:∃ o:Nat,o<=3/\(c:Int) / 3%4=(o:Int):=⟨((c:Int) / 3%4).toNat,by omega,by omega⟩
  rw [eo];exact q (.ref p) (.put o) _ (.aj gp _) (fun b z=>by cases z;exact gp) ⟨p,rfl,Yb⟩ (by show o<=7;omega)
inductive tK (vs:List V) (H:Hp) (Q:VK) (E_:XK):Prop
 | mk (v:V) (lo:Int) (r:Option Nat) (h0:vs=[v,.int lo]) (h1:Vx H lo .pk v r) (h2:Q (.bl r.isSome) H)
theorem Z4G {k:Nat}  (R:g.Raw "_law_is_deed" "_law_is_deed" Cg ["_law_thing_here","_law_low"]) (oR:g.Fn k "_law_whole" ["_law_found"] (VY)) (Z3:g.mg "isinstance"=none) (aH:g.mg "len"=none) (eN:g.mg "str"=none) (Zf:g.mg "tuple"=none):g.Fn (k+1) "_law_is_deed" ["_law_thing_here","_law_low"] (tK):=by
 refine R.fn Z4B (fun vs H Q E h=>by obtain ⟨v,lo,r,rfl,hv,q⟩:=h;rfl) fun f_ cdv A outer s H vs Q E hr h=>?_
 obtain ⟨v,lo,r,rfl,hv,q⟩:=h;refine ⟨_,(@Yd _ _ _ _ _ (@Yy _ _ _ _ _ _ _ _ (@XN _ _ _ _ _ _ _ (@Xt _ _ _ _ (@YT _ _ _ (@YA _ _ _ _ _ _ _ _ _ _ Z3 YL (@Ya _ _ _ _ _ (pv 0) (@Ya _ _ _ _ _ (@Xq _ _ _ _ ("tuple") Zf (by decide +kernel) (by rfl) (by rfl) (by decide) (by decide)) Yc (by rfl)) (by rfl)) (by decide +kernel) (by rfl) (by rfl) (by decide) (by decide) (by rfl) (by rfl)) (by intro _;rfl))) (@XN _ _ _ _ _ _ _ (@Yt _ _ _ _ _ _ _ _ JT (@YA _ _ _ _ _ _ _ _ _ _ aH YF (@Ya _ _ _ _ _ (pv 0) Yc (by rfl)) (by decide +kernel) (by rfl) (by rfl) (by decide) (by decide) (by rfl) (by rfl)) Yh (Yq _)) (@WC _ _ _ _ (@Xt _ _ _ _ (@YT _ _ _ (@YA _ _ _ _ _ _ _ _ _ _ Z3 YL (@Ya _ _ _ _ _ (@Yu _ _ _ _ _ _ _ Yw (pv 0) Yh (fun _ _=>rfl)) (@Ya _ _ _ _ _ (@Xq _ _ _ _ ("str") eN (by decide +kernel) (by rfl) (by rfl) (by decide) (by decide)) Yc (by rfl)) (by rfl)) (by decide +kernel) (by rfl) (by rfl) (by decide) (by decide) (by rfl) (by rfl)) (by intro _;rfl)))))).pt (@Yf _ _ _ (@Yl _ _ _ _ XT)) Yp) (@Yd _ _ _ _ _ (@Yy _ _ _ _ _ _ _ _ (@Yt _ _ _ _ _ _ _ _ YQ (@Yu _ _ _ _ _ _ _ Yw (pv 0) Yh (fun _ _=>rfl)) Yx (Yq _)) (@Yf _ _ _ (@Yl _ _ _ _ (@XA _ _ _ _ _ _ _ (@YA _ _ _ _ _ _ _ _ _ _ Z3 YL (@Ya _ _ _ _ _ (@Yu _ _ _ _ _ _ _ Yw (pv 0) Yh (fun _ _=>rfl)) (@Ya _ _ _ _ _ (@Xq _ _ _ _ ("tuple") Zf (by decide +kernel) (by rfl) (by rfl) (by decide) (by decide)) Yc (by rfl)) (by rfl)) (by decide +kernel) (by rfl) (by rfl) (by decide) (by decide) (by rfl) (by rfl)) (@XQ _ _ _ _ _ (@Xn _ _ _ _ _ _ _ _ YQ (@YA _ _ _ _ _ _ _ _ _ _ aH YF (@Ya _ _ _ _ _ (@Yu _ _ _ _ _ _ _ Yw (pv 0) Yh (fun _ _=>rfl)) Yc (by rfl)) (by decide +kernel) (by rfl) (by rfl) (by decide) (by decide) (by rfl) (by rfl)) Yh (Yq _)))))) Yp) (@Yf _ _ _ (@Yl _ _ _ _ (@XA _ _ _ _ _ _ _ (@Xn _ _ _ _ _ _ _ _ YQ (@Yu _ _ _ _ _ _ _ Yw (pv 0) Yh (fun _ _=>rfl)) Yx (Yq _)) (@XA _ _ _ _ _ _ _ (@Yr _ _ _ _ _ _ _ _ _ _ _ _ oR hr (@Ya _ _ _ _ _ (@Yu _ _ _ _ _ _ _ Yw (pv 0) Yh (fun _ _=>rfl)) Yc (by rfl)) (by omega) (by rfl) (by rfl) (by decide) (by rfl) (by rfl)) (@XQ _ _ _ _ _ (@QY _ _ _ _ _ _ _ _ _ _ _ _ W1 W1 (pv 1) (@Yu _ _ _ _ _ _ _ Yw (pv 0) Yh (fun _ _=>rfl)) (@Ys _ _ _ _ _ _ _ _ Xa (pv 1) Yh) (by with_unfolding_all rfl))))))))),?_⟩;refine Ym fun R rr=>?_
 walk_at "rd"
 cases hv with
 | gF v h =>
  cases h with
  | not v h =>
   obtain ⟨t,h1,h2⟩:=h.ty (K:=g.K);exact ⟨_,rfl,t,h1,false,h2,Y3 rfl q⟩
  | one a u h=>exact ⟨_,rfl,_,.tup h,true,rfl,YC (by decide) ⟨a,rfl,_,.inr (aq.of h),Y3 (by simp) q⟩⟩
  | mk a z u h n0 n1 =>
   refine ⟨_,rfl,_,.tup h,true,rfl,YC (by decide) ⟨a,rfl,_,.inr (aq.of h),YC (by simp) ⟨a,rfl,_,aq.of h,_,Yk (j:=0) rfl,_,rfl,_,.str _,true,rfl,YC (by decide) (rr _ _ (Ym fun R rr=>?_))⟩⟩⟩;walk_at "rd";refine ⟨_,aq.of h,_,Yk (j:=0) rfl,rfl,YC (fun e=>n0 (V.str.inj e)) (rr _ _ ?_)⟩;walk_at "rd";refine ⟨_,aq.of h,_,Yk (j:=0) rfl,rfl,YC (fun e=>n1 (V.str.inj e)) q⟩
 | pk a m u r hm h hu =>
  refine ⟨_,rfl,_,.tup h,true,rfl,YC (by decide) ⟨a,rfl,_,.inr (aq.of h),YC (by simp) ⟨a,rfl,_,aq.of h,_,Yk (j:=0) rfl,_,rfl,_,.str _,true,rfl,YC (by decide) (rr _ _ (Ym fun R rr=>?_))⟩⟩⟩;walk_at "rd"
  match m,hm with
  | 0,_ =>
   have hu:Vx H lo .aX u r:=hu;refine ⟨_,aq.of h,_,Yk (j:=0) rfl,rfl,Y3 rfl ⟨_,aq.of h,_,Yk (j:=1) rfl,?_⟩⟩
   cases hu with
   | aX b hb=>exact ⟨_,rfl,_,.tup hb,true,rfl,Y3 rfl ⟨_,aq.of h,_,Yk (j:=1) rfl,b,rfl,_,.inr (aq.of hb),q⟩⟩
   | jH b hb=>exact ⟨_,rfl,_,.lst hb,false,rfl,YC (by decide) q⟩
  | 1,_ =>
   have hu:Vx H lo .wh u r:=hu;refine ⟨_,aq.of h,_,Yk (j:=0) rfl,rfl,YC (by decide +kernel) (rr _ _ ?_)⟩;walk_at "rd";refine ⟨_,aq.of h,_,Yk (j:=0) rfl,rfl,Y3 rfl ⟨_,aq.of h,_,Yk (j:=1) rfl,?_⟩⟩
   cases hu with
   | jG z=>exact ⟨.str z,rfl,_,rfl,YC (by simp [An.isI]) q⟩
   | jl i c =>
    refine ⟨.int i,rfl,_,rfl,Y3 rfl ⟨_,aq.of h,_,Yk (j:=1) rfl,i,rfl,UX (fun c1=>⟨i,rfl,?_⟩) (fun c1=>q)⟩⟩;rw [decide_eq_false (fun z=>c ⟨c1,z⟩)];exact q
   | wh o ho =>
    refine ⟨.int (lo+o),rfl,_,rfl,Y3 rfl ⟨_,aq.of h,_,Yk (j:=1) rfl,lo+o,rfl,Y3 (by omega) ⟨lo+o,rfl,?_⟩⟩⟩;rw [decide_eq_true (by omega)];exact q
theorem Ydx {α:Type} {src:List (Option Nat)} {te:TE} {σ:St} {H:Hp} {Q:VK} {K:Ι} {tl:TE} {tt:TT} {xs:List V} {ps:List α} (hxp:xs.length=ps.length) (p:α->Bool) (ha:∀ R:V->Hp->Prop,(∀ a H1,Yg H H1->aA K H1 a xs->R (.ref a) H1)->tl σ H R) (hlen:xs.length<=100000)
  (test:∀ (i:Nat) x q H',xs[i]?=some x->ps[i]?=some q->Yg H H'->∀ R:Bool->Hp->Prop,(∀ aJ,Yg H' aJ->R (p q) aJ)->tt (some x::YJ src σ) H' R)
  (step:∀ (i:Nat) x q H',xs[i]?=some x->ps[i]?=some q->Yg H H'->∀ R:VK,(∀ y aJ,Yg H' aJ->R y aJ)->te (some x::YJ src σ) H' R)
  (fin:∀ D zs H',H D=none->Yg H H'->H' D=some (.lst zs)->zs.length=(ps.filter p).length->Q (.ref D) H'):je (none::src) (Wf K tl) (YW 0) tt te σ H Q:=by
 refine ha _ fun a H1 s1 hS=>⟨a,rfl,⟨xs,hS⟩,fun D hD=>?_⟩
 have h6:100000<sizeLine:=by decide
 refine zM (XV.imp fun H' (e:Yg H1 H')=>e.seq hS) (fun i zs σ' H'=>zs.length=((ps.take i).filter p).length/\(∃ o,σ'=o::YJ src σ)/\Yg H1 H'/\H' D=some (.lst zs)) ⟨by simp,⟨none,rfl⟩,.aj hD _,Yb⟩ (fun i zs σ' H' q=>⟨q.2.2.1,q.2.2.2⟩) ?_ ?_
 ·rintro i zs σ' H' x hx ⟨hz,⟨o,rfl⟩,sm,hd⟩
  have hi:=(Η.mp hx).1;have hq:ps[i]?=some (ps[i]'(by omega)):=Λ _;generalize ps[i]'(by omega)=qq at hq;have hfl:=List.length_filter_le p (ps.take i);rw [ν] at hfl
  show tt (some x::YJ src σ) H' _
  refine test i x qq H' hx hq (s1.trans sm) _ fun H2 s2=>?_
  cases e:p qq with
  | true =>
   refine VQ ?_;refine step i x qq H2 hx hq ((s1.trans sm).trans s2) _ fun y H3 s3=>⟨s3 _ _ (s2 _ _ hd),by omega,?_,⟨_,rfl⟩,.cO hD ((sm.trans s2).trans s3) _,Yb⟩
   rw [Xl hq,ir,Κ,Κ];simp [e,hz]
  | false =>
   refine zG ⟨?_,⟨_,rfl⟩,sm.trans s2,s2 _ _ hd⟩;rw [Xl hq,ir,Κ];simp [e,hz]
 ·rintro zs σ' H' ⟨hz,_,sm,hd⟩
  rw [hxp,dS] at hz
  exact fin D zs H' (s1.free hD) (s1.trans sm) hd hz
inductive tL (K:Ι) (vs:List V) (H:Hp) (Q:VK) (E_:XK):Prop
 | mk (v:V) (lo:Int) (r:Option Nat) (h0:vs=[v,.int lo]) (h1:Vx H lo .aN v r) (h2:∀ H',Yg H H'->Q (.bl r.isSome) H')
theorem Z4H {k:Nat}  (R:g.Raw "_law_is_good" "_law_is_good" Ci ["_law_things","_law_low"]) (lV:g.Fn k "_law_is_deed" ["_law_thing_here","_law_low"] (tK)) (Z3:g.mg "isinstance"=none) (aP:g.mg "list"=none):g.Fn (k+1) "_law_is_good" ["_law_things","_law_low"] (tL g.K):=by
 refine R.fn Z4C (fun vs H Q E h=>by obtain ⟨v,lo,r,rfl,hv,q⟩:=h;rfl) fun f_ cdv A outer s H vs Q E hr h=>?_
 obtain ⟨v,lo,r,rfl,hv,q⟩:=h;refine ⟨_,(@Yd _ _ _ _ _ (@Yy _ _ _ _ _ _ _ _ (@Xt _ _ _ _ (@YT _ _ _ (@YA _ _ _ _ _ _ _ _ _ _ Z3 YL (@Ya _ _ _ _ _ (pv 0) (@Ya _ _ _ _ _ (@Xq _ _ _ _ ("list") aP (by decide +kernel) (by rfl) (by rfl) (by decide) (by decide)) Yc (by rfl)) (by rfl)) (by decide +kernel) (by rfl) (by rfl) (by decide) (by decide) (by rfl) (by rfl)) (by intro _;rfl))) (@Yf _ _ _ (@Yl _ _ _ _ XT)) Yp) (@Yf _ _ _ (@Yl _ _ _ _ (@Xn _ _ _ _ _ _ _ _ (Ygd hr.yC (K:=g.K)) (@XO _ _ _ _ _ _ _ ([none,some 1]) ((["_law_thing_here","_law_low"]:List Str)) _ (YW 0) _ _ (.own (.cap (i:=1) rfl rfl (by first | exact .inl rfl | exact .inr rfl) .nil)) rfl (@Xe _ _ _ _ (pv 0)) (fun cl C s₀ H₀ fp pn=>(@YD _ _ (0) _ (show bu (["_law_thing_here","_law_low"]:List Str) by decide +kernel) rfl (.inl rfl) (.inr rfl))) (fun cl C s₀ H₀ fp pn=>(@Kc _ _ _ (@Xt _ _ _ _ (@YT _ _ _ (@Yr _ _ _ _ _ _ _ _ _ _ _ _ lV hr (@Ya _ _ _ _ _ (pv 0) (@Ya _ _ _ _ _ (pv 1) Yc (by rfl)) (by rfl)) (by omega) (by rfl) (by rfl) (by decide) (by rfl) (by rfl)) (by intro _;rfl))))) (fun cl C s₀ H₀ fp pn=>(pv 0)) (by intro x hx;simp at hx;first | (subst hx;exact .inl rfl) | (rcases hx with rfl | rfl<;>exact .inl rfl) | (rcases hx with rfl | rfl | rfl<;>exact .inl rfl) | (rcases hx with rfl | rfl | rfl | rfl<;>exact .inl rfl) | (rcases hx with rfl | rfl | rfl | rfl | rfl<;>exact .inl rfl)) (by rfl) (by decide) (by decide +kernel) (by intro _;rfl)) (@Y0 _ _ _ _ Yc) (Yq _))))),?_⟩;refine Ym fun R rr=>?_
 walk_at "rd"
 cases hv with
 | dF v h =>
  obtain ⟨t,h1,h2⟩:=h.ty (K:=g.K);exact ⟨_,rfl,t,h1,false,h2,Y3 rfl (q H (.refl _))⟩
 | aN D us rs hD l hl h2 r hr =>
  refine ⟨_,rfl,_,.lst hD,true,rfl,YC (by decide) (rr _ _ ?_)⟩;walk_at "rd";refine Ydx (K:=g.K) (xs:=us) (ps:=rs) l (fun z => !z.isSome) (fun R r=>by walk_at "rd";exact r D H (.refl _) (aA.of hD)) (by omega) ?_ ?_ ?_
  ·intro i u z H' hu hz sm R k
   walk_at "rd"
   cases (h2 i u z hu hz).kt (Yn sm) with
   | us _ r' hp =>
    refine ⟨u,lo,r',rfl,hp,?_⟩;have:=k H' (.refl _)
    cases r'<;>exact ⟨_,rfl,this⟩
  ·intro i u z H' hu hz sm R k
   walk_at "rd";exact k _ H' (.refl _)
  ·intro D' zs H' gD sm hd pY
   walk_at "rd";refine ⟨few (by decide),fun p gp=>⟨zs,aA.of (by rw [Ye (Yj hd gp)];exact hd),aA.of Yb,?_⟩⟩;have e:zs.isEmpty=r.isSome:=by
    rw [hr]
    cases h:rs.all eS with
    | true =>
     have:rs.filter (fun z => !z.isSome)=[]:=List.filter_eq_nil_iff.mpr fun z hz=>by rw [gE.mp h z hz];decide
     rw [this] at pY
     rw [de.mp pY];rfl
    | false =>
     obtain ⟨z,hz,hn⟩:=List.all_eq_false.mp h;have:z∈rs.filter (fun z => !z.isSome):=List.mem_filter.mpr ⟨hz,by simpa using hn⟩;have:=List.length_pos_of_mem this
     cases zs with
     | nil=>rw [fk] at pY;omega
     | cons _ _=>rfl
   rw [e];exact q _ (sm.trans (.aj gp _))
inductive nZ (CV CB:Addr) (vs:List V) (H:Hp) (Q:VK) (E_:XK):Prop
 | mk (a C:Addr) (dc:Option Addr) (h0:vs=[.ref a]) (h1:(C=CV\/C=CB)) (h2:H a=some (XX a (.ref C) dc)) (h3:Q (.bl true) H)
theorem Yay {Zj Z5 Z4 ZS ZK jw ZL ZT ZB ZU ZM ZV ZC:Addr} (R:g.Raw "_law_alone" "_law_alone" Cd ["_law_e"]) (tM:g.mg "ValueError"=none) (Z3:g.mg "isinstance"=none) (gJ:g.mg "Astray"=some (.ref ZV)) (bQ:g.mg "CountError"=some (.ref Zj)) (fL:g.mg "Crowded"=some (.ref ZK)) (gK:g.mg "NoDraw"=some (.ref ZU)) (eX:g.mg "NoGround"=some (.ref ZB)) (gO:g.mg "NoName"=some (.ref ZT)) (gQ:g.mg "NoNote"=some (.ref ZS)) (eY:g.mg "NoNumber"=some (.ref ZC)) (fM:g.mg "NoRange"=some (.ref ZL)) (fO:g.mg "TooMany"=some (.ref ZM)) (iQ:g.mg "Twice"=some (.ref jw)) (aK:fD g.K Z4) (aL:fD g.K Z5) (bH:γ g.K (.ref Z5) (.ref Zj)=some true) (bI:γ g.K (.ref Z5) (.type "ValueError")=some true) (cQ:γ g.K (.ref Z5) (.ref ZS)=some false) (cA:γ g.K (.ref Z5) (.ref ZK)=some false) (c7:γ g.K (.ref Z5) (.ref jw)=some false) (cB:γ g.K (.ref Z5) (.ref ZL)=some false) (cR:γ g.K (.ref Z5) (.ref ZT)=some false) (bR:γ g.K (.ref Z5) (.ref ZB)=some false) (cT:γ g.K (.ref Z5) (.ref ZU)=some false) (cC:γ g.K (.ref Z5) (.ref ZM)=some false) (cU:γ g.K (.ref Z5) (.ref ZV)=some false) (bT:γ g.K (.ref Z5) (.ref ZC)=some false) (bA:γ g.K (.ref Z4) (.ref Zj)=some true) (bB:γ g.K (.ref Z4) (.type "ValueError")=some true) (cD:γ g.K (.ref Z4) (.ref ZS)=some false) (bU:γ g.K (.ref Z4) (.ref ZK)=some false) (cV:γ g.K (.ref Z4) (.ref jw)=some false) (bV:γ g.K (.ref Z4) (.ref ZL)=some false) (cF:γ g.K (.ref Z4) (.ref ZT)=some false) (bL:γ g.K (.ref Z4) (.ref ZB)=some false) (cG:γ g.K (.ref Z4) (.ref ZU)=some false) (bW:γ g.K (.ref Z4) (.ref ZM)=some false) (cH:γ g.K (.ref Z4) (.ref ZV)=some false) (bM:γ g.K (.ref Z4) (.ref ZC)=some false):g.Fn (1) "_law_alone" ["_law_e"] (nZ Z5 Z4):=by
 refine R.fn Yap (fun vs H Q E h=>by obtain ⟨a,C,dc,rfl,hC,ha,q⟩:=h;rfl) fun f_ cdv A outer s H vs Q E hr h=>?_
 obtain ⟨a,C,dc,rfl,hC,ha,q⟩:=h;refine ⟨_,(@Yd _ _ _ _ _ (@Yy _ _ _ _ _ _ _ _ (@XN _ _ _ _ _ _ _ (@Xt _ _ _ _ (@YT _ _ _ (@YA _ _ _ _ _ _ _ _ _ _ Z3 (YS (K:=g.K) (YG aL (YG aK Xg))) (@Ya _ _ _ _ _ (pv 0) (@Ya _ _ _ _ _ (@Xm _ _ _ _ _ bQ (by rfl) (by rfl) (by decide)) Yc (by rfl)) (by rfl)) (by decide +kernel) (by rfl) (by rfl) (by decide) (by decide) (by rfl) (by rfl)) (by intro _;rfl))) (@WC _ _ _ _ (@Xt _ _ _ _ (@YT _ _ _ (@YA _ _ _ _ _ _ _ _ _ _ Z3 (YS (K:=g.K) (YG aL (YG aK Xg))) (@Ya _ _ _ _ _ (pv 0) (@Ya _ _ _ _ _ (@Xq _ _ _ _ ("ValueError") tM (by decide +kernel) (by rfl) (by rfl) (by decide) (by decide)) Yc (by rfl)) (by rfl)) (by decide +kernel) (by rfl) (by rfl) (by decide) (by decide) (by rfl) (by rfl)) (by intro _;rfl))))).pt (@Yf _ _ _ (@Yl _ _ _ _ XT)) Yp) (@Yd _ _ _ _ _ (@Yy _ _ _ _ _ _ _ _ (@XN _ _ _ _ _ _ _ (@YT _ _ _ (@YA _ _ _ _ _ _ _ _ _ _ Z3 (YS (K:=g.K) (YG aL (YG aK Xg))) (@Ya _ _ _ _ _ (pv 0) (@Ya _ _ _ _ _ (@Xm _ _ _ _ _ gQ (by rfl) (by rfl) (by decide)) Yc (by rfl)) (by rfl)) (by decide +kernel) (by rfl) (by rfl) (by decide) (by decide) (by rfl) (by rfl)) (by intro _;rfl)) (@XN _ _ _ _ _ _ _ (@YT _ _ _ (@YA _ _ _ _ _ _ _ _ _ _ Z3 (YS (K:=g.K) (YG aL (YG aK Xg))) (@Ya _ _ _ _ _ (pv 0) (@Ya _ _ _ _ _ (@Xm _ _ _ _ _ fL (by rfl) (by rfl) (by decide)) Yc (by rfl)) (by rfl)) (by decide +kernel) (by rfl) (by rfl) (by decide) (by decide) (by rfl) (by rfl)) (by intro _;rfl)) (@XN _ _ _ _ _ _ _ (@YT _ _ _ (@YA _ _ _ _ _ _ _ _ _ _ Z3 (YS (K:=g.K) (YG aL (YG aK Xg))) (@Ya _ _ _ _ _ (pv 0) (@Ya _ _ _ _ _ (@Xm _ _ _ _ _ iQ (by rfl) (by rfl) (by decide)) Yc (by rfl)) (by rfl)) (by decide +kernel) (by rfl) (by rfl) (by decide) (by decide) (by rfl) (by rfl)) (by intro _;rfl)) (@WC _ _ _ _ (@YT _ _ _ (@YA _ _ _ _ _ _ _ _ _ _ Z3 (YS (K:=g.K) (YG aL (YG aK Xg))) (@Ya _ _ _ _ _ (pv 0) (@Ya _ _ _ _ _ (@Xm _ _ _ _ _ fM (by rfl) (by rfl) (by decide)) Yc (by rfl)) (by rfl)) (by decide +kernel) (by rfl) (by rfl) (by decide) (by decide) (by rfl) (by rfl)) (by intro _;rfl)))))).pt (@Yf _ _ _ (@Yl _ _ _ _ XT)) Yp) (@Yd _ _ _ _ _ (@Yy _ _ _ _ _ _ _ _ (@XN _ _ _ _ _ _ _ (@YT _ _ _ (@YA _ _ _ _ _ _ _ _ _ _ Z3 (YS (K:=g.K) (YG aL (YG aK Xg))) (@Ya _ _ _ _ _ (pv 0) (@Ya _ _ _ _ _ (@Xm _ _ _ _ _ gO (by rfl) (by rfl) (by decide)) Yc (by rfl)) (by rfl)) (by decide +kernel) (by rfl) (by rfl) (by decide) (by decide) (by rfl) (by rfl)) (by intro _;rfl)) (@XN _ _ _ _ _ _ _ (@YT _ _ _ (@YA _ _ _ _ _ _ _ _ _ _ Z3 (YS (K:=g.K) (YG aL (YG aK Xg))) (@Ya _ _ _ _ _ (pv 0) (@Ya _ _ _ _ _ (@Xm _ _ _ _ _ eX (by rfl) (by rfl) (by decide)) Yc (by rfl)) (by rfl)) (by decide +kernel) (by rfl) (by rfl) (by decide) (by decide) (by rfl) (by rfl)) (by intro _;rfl)) (@XN _ _ _ _ _ _ _ (@YT _ _ _ (@YA _ _ _ _ _ _ _ _ _ _ Z3 (YS (K:=g.K) (YG aL (YG aK Xg))) (@Ya _ _ _ _ _ (pv 0) (@Ya _ _ _ _ _ (@Xm _ _ _ _ _ gK (by rfl) (by rfl) (by decide)) Yc (by rfl)) (by rfl)) (by decide +kernel) (by rfl) (by rfl) (by decide) (by decide) (by rfl) (by rfl)) (by intro _;rfl)) (@WC _ _ _ _ (@YT _ _ _ (@YA _ _ _ _ _ _ _ _ _ _ Z3 (YS (K:=g.K) (YG aL (YG aK Xg))) (@Ya _ _ _ _ _ (pv 0) (@Ya _ _ _ _ _ (@Xm _ _ _ _ _ fO (by rfl) (by rfl) (by decide)) Yc (by rfl)) (by rfl)) (by decide +kernel) (by rfl) (by rfl) (by decide) (by decide) (by rfl) (by rfl)) (by intro _;rfl)))))).pt (@Yf _ _ _ (@Yl _ _ _ _ XT)) Yp) (@Yf _ _ _ (@Yl _ _ _ _ (@XA _ _ _ _ _ _ _ (@VJ _ _ _ _ (@YA _ _ _ _ _ _ _ _ _ _ Z3 (YS (K:=g.K) (YG aL (YG aK Xg))) (@Ya _ _ _ _ _ (pv 0) (@Ya _ _ _ _ _ (@Xm _ _ _ _ _ gJ (by rfl) (by rfl) (by decide)) Yc (by rfl)) (by rfl)) (by decide +kernel) (by rfl) (by rfl) (by decide) (by decide) (by rfl) (by rfl))) (@XQ _ _ _ _ _ (@VJ _ _ _ _ (@YA _ _ _ _ _ _ _ _ _ _ Z3 (YS (K:=g.K) (YG aL (YG aK Xg))) (@Ya _ _ _ _ _ (pv 0) (@Ya _ _ _ _ _ (@Xm _ _ _ _ _ eY (by rfl) (by rfl) (by decide)) Yc (by rfl)) (by rfl)) (by decide +kernel) (by rfl) (by rfl) (by decide) (by decide) (by rfl) (by rfl)))))))))),?_⟩;have hm:C∈[Z5,Z4]:=by rcases hC with rfl | rfl<;>simp
 have k:∀ {b:Bool} {w:Α},γ g.K (.ref Z5) w=some b->γ g.K (.ref Z4) w=some b->γ g.K (.ref C) w=some b:=fun h1 h2=>by
  rcases hC with rfl | rfl
  ·exact h1
  ·exact h2
 refine Ym fun R rr=>?_
 walk_at "rd";refine ⟨C,hm,a,_,_,true,dc,rfl,rfl,ha,k bH bA,_,rfl,YC (by decide) ⟨C,hm,a,_,_,true,dc,rfl,rfl,ha,k bI bB,_,rfl,YC (by decide) (rr _ _ (Ym fun R rr=>?_))⟩⟩;walk_at "rd";refine ⟨C,hm,a,_,_,false,dc,rfl,rfl,ha,k cQ cD,_,rfl,YC (by decide) ⟨C,hm,a,_,_,false,dc,rfl,rfl,ha,k cA bU,_,rfl,YC (by decide) ⟨C,hm,a,_,_,false,dc,rfl,rfl,ha,k c7 cV,_,rfl,YC (by decide) ⟨C,hm,a,_,_,false,dc,rfl,rfl,ha,k cB bV,_,rfl,YC (by decide) (rr _ _ (Ym fun R rr=>?_))⟩⟩⟩⟩;walk_at "rd";refine ⟨C,hm,a,_,_,false,dc,rfl,rfl,ha,k cR cF,_,rfl,YC (by decide) ⟨C,hm,a,_,_,false,dc,rfl,rfl,ha,k bR bL,_,rfl,YC (by decide) ⟨C,hm,a,_,_,false,dc,rfl,rfl,ha,k cT cG,_,rfl,YC (by decide) ⟨C,hm,a,_,_,false,dc,rfl,rfl,ha,k cC bW,_,rfl,YC (by decide) (rr _ _ ?_)⟩⟩⟩⟩;walk_at "rd";refine ⟨C,hm,a,_,_,false,dc,rfl,rfl,ha,k cU cH,_,rfl,Y3 rfl ⟨C,hm,a,_,_,false,dc,rfl,rfl,ha,k bT bM,_,rfl,q⟩⟩
inductive tO (g:Gx) (PT PJ PS CV CB:Addr) (vs:List V) (H:Hp) (Q:VK) (E_:XK):Prop
 | mk (B:Addr) (v:V) (bad lo:Int) (r:Option Nat) (xs:List Dd) (h0:vs=[.ref B,v,.int bad]) (h1:cX H lo B) (h2:Vx H lo .aN v r) (h3:(r.isSome=true->Gl H lo v xs)) (h4:XZ H PT) (h5:Xi H PJ) (h6:Xs H PS) (h7:PJ≠PS) (h8:PJ≠PT) (h9:PS≠PT) (h10:(r=none->∀ e d H',Kt H H'->XZ H' PT->Xi H' PJ->Xs H' PS->H' e=some (XX e (.ref CV) (some d))->H' d=some (XY d [("value",v)])->Q (.ref e) H')) (h11:(r.isSome=true->brk bad xs=false->∀ e H',Kt H H'->XZ H' PT->Xi H' PJ->Xs H' PS->H' e=some (XX e (.ref CB) none)->Q (.ref e) H')) (h12:(r.isSome=true->brk bad xs=true->∀ H',Kt H H'->XZ H' PT->Xi H' PJ->Xs H' PS->Q .non H'))
theorem XZ.aU {H:Hp} {P:Addr} (h:XZ H P):∃ ps,H P=some (.aU ps):=by
 rcases h with h | ⟨c1,c2,h,_⟩
 ·exact ⟨_,h⟩
 ·exact ⟨_,h⟩
theorem XZ.keep {H H':Hp} {P:Addr} (h:XZ H P) (s:Yg H H'):XZ H' P:=by
 rcases h with h | ⟨c1,c2,h,h1,h2⟩
 ·exact .inl (s _ _ h)
 ·exact .inr ⟨c1,c2,s _ _ h,s _ _ h1,s _ _ h2⟩
theorem Z4I {k:Nat} {Zj Z5 Z4 au ao aF:Addr} (R:g.Raw "_law_refused" "_law_refused" Cm ["_law_book","_law_things","_law_bad"]) (Fv:g.fV k "shrunk_deeds" ["book","shape","begin","done","model_begin","model_done","deeds"] (nW g au ao Z5 Z4)) (tQ:g.Fn k "_law_thing" ["_law_bad"] (Fi g aF)) (bQ:g.mg "CountError"=some (.ref Zj)) (bJ:ka g.K (.ref Z5) (.ref Zj)=some true) (bC:ka g.K (.ref Z4) (.ref Zj)=some true):g.Fn (k+1) "_law_refused" ["_law_book","_law_things","_law_bad"] (tO g aF au ao Z5 Z4):=by
 refine R.fn ZR (fun vs H Q E h=>by obtain ⟨B,v,bad,lo,r,xs,rfl,hB,hv,hg,tt,tj,ts,n1,n2,n3,q0,q1,q2⟩:=h;rfl) fun f_ cdv A outer s H vs Q E hr h=>?_
 obtain ⟨B,v,bad,lo,r,xs,rfl,hB,hv,hg,tt,tj,ts,n1,n2,n3,q0,q1,q2⟩:=h;refine ⟨_,(@Yd _ _ _ _ _ (@Yv _ _ (3) _ _ _ _ ZR.nd rfl (.inl rfl) (@Yr _ _ _ _ _ _ _ _ _ _ _ _ tQ hr (@Ya _ _ _ _ _ (@W0 _ _ _ _ _ _ WE Yh) Yc (by rfl)) (by omega) (by rfl) (by rfl) (by decide) (by rfl) (by rfl)) (by rfl) (by first | exact .inl rfl | exact .inr rfl | assumption)) (@Yd _ _ _ _ _ (@Yv _ _ (4) _ _ _ _ ZR.nd rfl (.inl rfl) (@Yr _ _ _ _ _ _ _ _ _ _ _ _ tQ hr (@Ya _ _ _ _ _ (pv 2) Yc (by rfl)) (by omega) (by rfl) (by rfl) (by decide) (by rfl) (by rfl)) (by rfl) (by first | exact .inl rfl | exact .inr rfl | assumption)) (@Yd _ _ _ _ _ (@Yv _ _ (5) _ _ _ _ ZR.nd rfl (.inl rfl) Xk (by rfl) (by first | exact .inl rfl | exact .inr rfl | assumption)) (@Yd _ _ _ _ _ (@Yft _ _ _ _ (6) _ _ _ _ _ _ _ _ _ _ _ _ _ _ _ _ _ _ Fv hr ZR.nd rfl rfl (@Ya _ _ _ _ _ (pv 0) (@Ya _ _ _ _ _ (@YR _ _ _ _ _ (@Ya _ _ _ _ _ Yx (@Ya _ _ _ _ _ Yx Yc (by rfl)) (by rfl))) (@Ya _ _ _ _ _ (@Yu _ _ _ _ _ _ _ Yw (pv 3) Yh (fun _ _=>rfl)) (@Ya _ _ _ _ _ (@Yu _ _ _ _ _ _ _ Yw (pv 3) Yh (fun _ _=>rfl)) (@Ya _ _ _ _ _ (@Yu _ _ _ _ _ _ _ Yw (pv 4) Yh (fun _ _=>rfl)) (@Ya _ _ _ _ _ (@Yu _ _ _ _ _ _ _ Yw (pv 4) Yh (fun _ _=>rfl)) (@Ya _ _ _ _ _ (pv 1) Yc (by rfl)) (by rfl)) (by rfl)) (by rfl)) (by rfl)) (YY _ _ _ _ _)) (by rfl)) bQ (fun _=>(@Yf _ _ _ (@Yv _ _ (5) _ _ _ _ ZR.nd rfl (.inl rfl) (pv 6) (by rfl) (by first | exact .inl rfl | exact .inr rfl | assumption)))) (by omega) (by rfl) (by rfl) (by rfl) (by rfl) (by rfl) (by decide) (by decide) (by rfl) (by rfl) (by rfl)) (@Yf _ _ _ (@Yl _ _ _ _ (pv 5))))))),?_⟩;obtain ⟨ps0,hp0⟩:=tt.aU;refine Ym fun R rr=>?_
 walk_at "rd";refine ⟨-1,rfl,tt,fun t1 b1 f1 H1 hb1 hf1 ht1 Py k1=>rr _ _ (Ym fun R rr=>?_)⟩;obtain ⟨ps1,hp1⟩:=Py.aU;walk_at "rd";refine ⟨bad,rfl,Py,fun t2 b2 f2 H2 hb2 hf2 rJ tt2 k2=>rr _ _ (Ym fun R rr=>?_)⟩;have kt1:Kt H H1:=WI k1 hp0;have tH:Kt H1 H2:=WI k2 hp1;have ktA:=kt1.trans tH;have xT:=(tj.but k1 hp0 n2).but k2 hp1 n2;have Ft:=(ts.but k1 hp0 n3).but k2 hp1 n3;walk_at "rd";refine rr _ _ (Ym fun R rr=>?_);unfold KY;walk_at "rd";refine ⟨few (by decide),fun p gp=>?_⟩;have s3:=Yg.aj gp (.tup [.str "use",.str "deed"]);have eU:upd H2 p (.tup [.str "use",.str "deed"]) p=some (.tup [.str "use",.str "deed"]):=Yb;generalize upd H2 p (.tup [.str "use",.str "deed"])=H3 at s3 eU;have k13:Yg H1 H1 := .refl _;have tU:=ktA.trans (Yn s3);have Fw:=s3 _ _ (tH.tup ht1);have Fx:=s3 _ _ rJ;have n13:=Kt.nl (tH.trans (Yn s3));have n23:=WA s3;have iK:=xT.keep s3;have iM:=Ft.keep s3;have lJ:=tt2.keep s3;have fin:∀ {H4:Hp},K2 au ao H3 H4->Kt H H4/\XZ H4 aF:=fun k=>⟨tU.trans (k.kt iK.aU iM.aU),?_⟩
 ·refine ⟨_,aq.of Fw,_,Yk (j:=0) rfl,_,aq.of Fw,_,Yk (j:=1) rfl,_,aq.of Fx,_,Yk (j:=0) rfl,_,aq.of Fx,_,Yk (j:=1) rfl,?_⟩
  refine ⟨B,p,b1,f1,b2,f2,v,bad,lo,r,xs,rfl,hB.kt tU,eU,⟨hb1.nl n13,hf1.nl n13,hb2.nl n23,hf2.nl n23⟩,hv.kt tU,(fun z=>(hg z).kt tU),iK,iM,n1,fun er H4 d s4 gd=>⟨bJ,fun a ga=>rr _ _ ?_⟩,fun er eb H4 k4 Fy Fz=>⟨bC,fun a ga=>rr _ _ ?_⟩,fun L y ys H4 k4 hL er eb _ Fy Fz=>rr _ _ ?_⟩
  ·walk_at "rd"
   have sd:=Yg.aj gd (XY d [("value",v)]);have sa:=Yg.aj ga (XX a (.ref Z5) (some d));have s5:=(s4.trans sd).trans sa;exact q0 er a d _ (tU.trans (Yn s5)) (lJ.keep s5) (iK.keep s5) (iM.keep s5) Yb (sa _ _ Yb)
  ·walk_at "rd"
   have sa:=Yg.aj ga (XX a (.ref Z4) none);exact q1 er eb a _ ((fin k4).1.trans (Yn sa)) ((fin k4).2.keep sa) (Fy.keep sa) (Fz.keep sa) Yb
  ·walk_at "rd"
   exact q2 er eb _ (fin k4).1 (fin k4).2 Fy Fz
 ·rcases lJ with h | ⟨c1,c2,h,h1,h2⟩
  ·exact .inl (k _ _ (ψ n2) (ψ n3) h)
  ·obtain ⟨pj,hj⟩:=iK.aU
   obtain ⟨ps,hs⟩:=iM.aU;exact .inr ⟨c1,c2,k _ _ (ψ n2) (ψ n3) h,k _ _ (YE h1 hj (by intro z;cases z)) (YE h1 hs (by intro z;cases z)) h1,k _ _ (YE h2 hj (by intro z;cases z)) (YE h2 hs (by intro z;cases z)) h2⟩
inductive tV (g:Gx) (PT PJ PS CV CB:Addr) (vs:List V) (H:Hp) (Q:VK) (E_:XK):Prop
 | mk (B:Addr) (v:V) (bad lo:Int) (r:Option Nat) (h0:vs=[.ref B,v,.int bad,.int lo]) (h1:cX H lo B) (h2:Vx H lo .aN v r) (h3:f9 H 2 4 v) (h4:XZ H PT) (h5:Xi H PJ) (h6:Xs H PS) (h7:PJ≠PS) (h8:PJ≠PT) (h9:PS≠PT) (h10:∀ H',Kt H H'->XZ H' PT->Xi H' PJ->Xs H' PS->Q (.bl true) H')
theorem Ycm {k:Nat} {Z5 Z4 au ao aF:Addr} (R:g.Raw "_law_due" "_law_due" Cp ["_law_book","_law_things","_law_bad","_law_low"]) (Zz:g.Fn k "_law_copy" ["_law_value"] (gH 4)) (Pz:g.Fn k "_law_alone" ["_law_e"] (nZ Z5 Z4)) (lW:g.Fn k "_law_is_good" ["_law_things","_law_low"] (tL g.K)) (lX:g.Fn k "_law_refused" ["_law_book","_law_things","_law_bad"] (tO g aF au ao Z5 Z4)) (bO:bS g.K (.ref Z5) "value"=some none) (Z3:g.mg "isinstance"=none) (aH:g.mg "len"=none) (cL:g.mg "NoBreach"=some (.ref Z4)) (eF:g.mg "NoValue"=some (.ref Z5)) (aK:fD g.K Z4) (aL:fD g.K Z5) (cI:γ g.K (.ref Z5) (.ref Z5)=some true) (bY:γ g.K (.ref Z5) (.ref Z4)=some false) (bN:γ g.K (.ref Z4) (.ref Z4)=some true) (bZ:γ g.K (.ref Z4) (.ref Z5)=some false):g.Fn (k+1) "_law_due" ["_law_book","_law_things","_law_bad","_law_low"] (tV g aF au ao Z5 Z4):=by
 refine R.fn vW (fun vs H Q E h=>by obtain ⟨B,v,bad,lo,r,rfl,hB,hv,ht,tt,tj,ts,n1,n2,n3,q⟩:=h;rfl) fun f_ cdv A outer s H vs Q E hr h=>?_
 obtain ⟨B,v,bad,lo,r,rfl,hB,hv,ht,tt,tj,ts,n1,n2,n3,q⟩:=h;refine ⟨_,(@Yd _ _ _ _ _ (@Yv _ _ (4) _ _ _ _ vW.nd rfl (.inl rfl) (@Yr _ _ _ _ _ _ _ _ _ _ _ _ Zz hr (@Ya _ _ _ _ _ (pv 1) Yc (by rfl)) (by omega) (by rfl) (by rfl) (by decide) (by rfl) (by rfl)) (by rfl) (by first | exact .inl rfl | exact .inr rfl | assumption)) (@Yd _ _ _ _ _ (@Yv _ _ (5) _ _ _ _ vW.nd rfl (.inl rfl) (@Yr _ _ _ _ _ _ _ _ _ _ _ _ lW hr (@Ya _ _ _ _ _ (pv 1) (@Ya _ _ _ _ _ (pv 3) Yc (by rfl)) (by rfl)) (by omega) (by rfl) (by rfl) (by decide) (by rfl) (by rfl)) (by rfl) (by first | exact .inl rfl | exact .inr rfl | assumption)) (@Yd _ _ _ _ _ (@Yv _ _ (6) _ _ _ _ vW.nd rfl (.inl rfl) (@Yr _ _ _ _ _ _ _ _ _ _ _ _ lX hr (@Ya _ _ _ _ _ (pv 0) (@Ya _ _ _ _ _ (pv 1) (@Ya _ _ _ _ _ (pv 2) Yc (by rfl)) (by rfl)) (by rfl)) (by omega) (by rfl) (by rfl) (by decide) (by rfl) (by rfl)) (by rfl) (by first | exact .inl rfl | exact .inr rfl | assumption)) (@Yd _ _ _ _ _ (@Yy _ _ _ _ _ _ _ _ (@Yt _ _ _ _ _ _ _ _ (Ygf hr.units) (pv 1) (pv 4) (Yq _)) (@Yf _ _ _ (@Yl _ _ _ _ XT)) Yp) (@Yd _ _ _ _ _ (@Yy _ _ _ _ _ _ _ _ (@Xt _ _ _ _ (@YT _ _ _ (pv 5) (by intro _;rfl))) (@Yd _ _ _ _ _ (@Yy _ _ _ _ _ _ _ _ (@XN _ _ _ _ _ _ _ (@Xt _ _ _ _ (@YT _ _ _ (@YA _ _ _ _ _ _ _ _ _ _ Z3 (YS (K:=g.K) (YG aL (YG aK Xg))) (@Ya _ _ _ _ _ (pv 6) (@Ya _ _ _ _ _ (@Xm _ _ _ _ _ eF (by rfl) (by rfl) (by decide)) Yc (by rfl)) (by rfl)) (by decide +kernel) (by rfl) (by rfl) (by decide) (by decide) (by rfl) (by rfl)) (by intro _;rfl))) (@XN _ _ _ _ _ _ _ (@YT _ _ _ (@YA _ _ _ _ _ _ _ _ _ _ Z3 (YS (K:=g.K) (YG aL (YG aK Xg))) (@Ya _ _ _ _ _ (pv 6) (@Ya _ _ _ _ _ (@Xm _ _ _ _ _ cL (by rfl) (by rfl) (by decide)) Yc (by rfl)) (by rfl)) (by decide +kernel) (by rfl) (by rfl) (by decide) (by decide) (by rfl) (by rfl)) (by intro _;rfl)) (@WC _ _ _ _ (@Xt _ _ _ _ (@YT _ _ _ (@Yr _ _ _ _ _ _ _ _ _ _ _ _ Pz hr (@Ya _ _ _ _ _ (pv 6) Yc (by rfl)) (by omega) (by rfl) (by rfl) (by decide) (by rfl) (by rfl)) (by intro _;rfl)))))).pt (@Yf _ _ _ (@Yl _ _ _ _ XT)) Yp) (@Yf _ _ _ (@Yl _ _ _ _ (@Xn _ _ _ _ _ _ _ _ (Yge hr.units) (@Iu _ _ _ _ _ _ _ aL bO (pv 6) (by rfl) (by rfl)) (pv 4) (Yq _))))) Yp) (@Yd _ _ _ _ _ (@Yy _ _ _ _ _ _ _ _ (@YdC _ _ _ _ _ _ _ _ _ _ _ _ W1 Ih Yh (pv 2) (@YA _ _ _ _ _ _ _ _ _ _ aH YF (@Ya _ _ _ _ _ (pv 1) Yc (by rfl)) (by decide +kernel) (by rfl) (by rfl) (by decide) (by decide) (by rfl) (by rfl)) (by with_unfolding_all rfl)) (@Yf _ _ _ (@Yl _ _ _ _ (@Xn _ _ _ _ _ _ _ _ VN (pv 6) Xk (Yq _)))) Yp) (@Yf _ _ _ (@Yl _ _ _ _ (@XA _ _ _ _ _ _ _ (@YA _ _ _ _ _ _ _ _ _ _ Z3 (YS (K:=g.K) (YG aL (YG aK Xg))) (@Ya _ _ _ _ _ (pv 6) (@Ya _ _ _ _ _ (@Xm _ _ _ _ _ cL (by rfl) (by rfl) (by decide)) Yc (by rfl)) (by rfl)) (by decide +kernel) (by rfl) (by rfl) (by decide) (by decide) (by rfl) (by rfl)) (@XA _ _ _ _ _ _ _ (@VJ _ _ _ _ (@YA _ _ _ _ _ _ _ _ _ _ Z3 (YS (K:=g.K) (YG aL (YG aK Xg))) (@Ya _ _ _ _ _ (pv 6) (@Ya _ _ _ _ _ (@Xm _ _ _ _ _ eF (by rfl) (by rfl) (by decide)) Yc (by rfl)) (by rfl)) (by decide +kernel) (by rfl) (by rfl) (by decide) (by decide) (by rfl) (by rfl))) (@XQ _ _ _ _ _ (@Yr _ _ _ _ _ _ _ _ _ _ _ _ Pz hr (@Ya _ _ _ _ _ (pv 6) Yc (by rfl)) (by omega) (by rfl) (by rfl) (by decide) (by rfl) (by rfl))))))))))))),?_⟩;obtain ⟨xs,hg⟩:∃ xs,r.isSome=true->Gl H lo v xs:=by
  cases r with
  | none=>exact ⟨[],fun z=>by cases z⟩
  | some n=>obtain ⟨xs,h⟩:=hv.good rfl;exact ⟨xs,fun _=>h⟩
 refine Ym fun R rr=>?_
 walk_at "rd";refine ⟨v,2,rfl,ht,fun v' H1 s1 hc=>rr _ _ (Ym fun R rr=>?_)⟩;walk_at "rd";refine ⟨v,lo,r,rfl,hv.kt (Yn s1),fun H2 s2=>rr _ _ (Ym fun R rr=>?_)⟩;have sA:=s1.trans s2;have kA:=Yn sA;have qb:∀ {H3:Hp},Kt H2 H3->lD g.K H3 v v':=fun k=>Cz.qb (Cz.kt (kA.trans k) ((Yn s2).trans k) hc) (by decide)
 walk_at "rd";refine ⟨B,v,bad,lo,r,xs,rfl,hB.kt kA,hv.kt kA,(fun z=>(hg z).kt kA),tt.keep sA,tj.keep sA,ts.keep sA,n1,n2,n3,fun er e d H3 k3 lJ iK iM he hd=>rr _ _ (Ym fun R rr=>?_),fun er eb e H3 k3 lJ iK iM he=>rr _ _ (Ym fun R rr=>?_),fun er eb H3 k3 lJ iK iM=>rr _ _ (Ym fun R rr=>?_)⟩
 ·walk_at "rd"
  refine ⟨qb k3,rr _ _ (Ym fun R rr=>?_)⟩
  cases er
  walk_at "rd";refine Y3 rfl ⟨_,.head _,e,_,_,true,_,rfl,rfl,he,cI,_,rfl,YC (by decide) ⟨_,.head _,e,_,_,false,_,rfl,rfl,he,bY,_,rfl,YC (by decide) ⟨e,_,_,rfl,.inl rfl,he,_,rfl,YC (by decide) ?_⟩⟩⟩;unfold Mp;walk_at "rd";exact ⟨d,he,_,hd,v,rfl,qb k3,q H3 (kA.trans k3) lJ iK iM⟩
 ·walk_at "rd"
  refine ⟨qb k3,rr _ _ (Ym fun R rr=>?_)⟩;walk_at "rd";refine YC (by rw [er];decide) (rr _ _ (Ym fun R rr=>?_));obtain ⟨D,us,ev,hD,al,ok⟩:=hg er;subst ev;walk_at "rd";have nb:=of_decide_eq_false eb;have ul:=al.1;have n6:=k3.lst (kA.lst hD);have fin:R [some (V.ref B),some (V.ref D),some (V.int bad),some (V.int lo),some v',some (V.bl r.isSome),some (V.ref e)] H3:=rr _ _ (by
   walk_at "rd";exact ⟨_,.tail _ (.head _),e,_,_,true,_,rfl,rfl,he,bN,_,rfl,Y3 rfl ⟨_,.tail _ (.head _),e,_,_,false,_,rfl,rfl,he,bZ,_,rfl,Y3 rfl ⟨e,_,_,rfl,.inr rfl,he,q H3 (kA.trans k3) lJ iK iM⟩⟩⟩)
  exact UX (fun c=>⟨_,.inl (aA.of n6),YC (fun z=>nb ⟨c,by omega⟩) fin⟩) (fun _=>fin)
 ·walk_at "rd"
  refine ⟨qb k3,rr _ _ (Ym fun R rr=>?_)⟩;walk_at "rd";refine YC (by rw [er];decide) (rr _ _ (Ym fun R rr=>?_));obtain ⟨D,us,ev,hD,al,ok⟩:=hg er;subst ev;walk_at "rd";have nb:=of_decide_eq_true eb;have ul:=al.1;have n6:=k3.lst (kA.lst hD);exact Y3 nb.1 ⟨_,.inl (aA.of n6),Y3 (by omega) (q H3 (kA.trans k3) lJ iK iM)⟩
theorem US {H:Hp} {lo:Int} {v v':V} {x:Dd} (h:Y6 H lo v x) (h':Y6 H lo v' x) (k n:Nat):Cz (fun _=>True) H H k (n+2) v v':=by
 have s0:ce (bx 0)=true:=by decide +kernel
 have s1:ce (bx 1)=true:=by decide +kernel
 cases x with
 | put o =>
  obtain ⟨a,rfl,ha⟩:=h;obtain ⟨b,rfl,hb⟩:=h';refine .tup _ _ a b _ _ ha trivial hb rfl (by simp) fun i u u' e1 e2=>?_
  match i,e1,e2 with
  | 0,e1,e2=>cases e1;cases e2;exact .str _ _ _ s1
  | 1,e1,e2=>cases e1;cases e2;exact .int _ _ _
 | ask =>
  obtain ⟨a,c,rfl,ha,hc⟩:=h;obtain ⟨b,d,rfl,hb,hd⟩:=h';refine .tup _ _ a b _ _ ha trivial hb rfl (by simp) fun i u u' e1 e2=>?_
  match i,e1,e2 with
  | 0,e1,e2=>cases e1;cases e2;exact .str _ _ _ s0
  | 1,e1,e2=>cases e1;cases e2;exact .tup _ _ c d [] [] hc trivial hd rfl (by simp) fun i u u' e1=>by cases e1
theorem Cz.dd {N:Addr->Prop} {H H':Hp} {lo:Int} {k n:Nat} {v v':V} {x:Dd} (h:Cz N H H' k n v v') (hx:Y6 H lo v x):Y6 H' lo v' x:=by
 have one:∀ {k n:Nat} {a:Addr} {us:List V} {v':V},Cz N H H' k n (.ref a) v'->H a=some (.tup us)->∃ b us' m,v' = .ref b/\H' b=some (.tup us')/\us.length=us'.length/\∀ (i:Nat) u u',us[i]?=some u->us'[i]?=some u'->Cz N H H' 0 m u u':=fun h e=>by
  cases h with
  | dg k n a h=>rw [e] at h;cases h
  | tup k n a b us us' ha nb hb hl l kk =>
   rw [e] at ha
   cases HO.tup.inj (Ε ha)
   exact ⟨b,us',n,rfl,hb,hl,kk⟩
  | lst k n a b us us' ha=>rw [e] at ha;cases ha
 have str:∀ {k n:Nat} {z:Str} {v':V},Cz N H H' k n (.str z) v'->v' = .str z:=fun h=>by cases h;rfl
 have int:∀ {k n:Nat} {z:Int} {v':V},Cz N H H' k n (.int z) v'->v' = .int z:=fun h=>by cases h;rfl
 cases x with
 | put o =>
  obtain ⟨a,rfl,ha⟩:=hx;obtain ⟨b,us',m,rfl,hb,hl,kk⟩:=one h ha
  match us',hl with
  | [u0,u1],_ =>
   cases str (kk 0 _ _ rfl rfl)
   cases int (kk 1 _ _ rfl rfl)
   exact ⟨b,rfl,hb⟩
 | ask =>
  obtain ⟨a,c,rfl,ha,hc⟩:=hx;obtain ⟨b,us',m,rfl,hb,hl,kk⟩:=one h ha
  match us',hl with
  | [u0,u1],_ =>
   cases str (kk 0 _ _ rfl rfl)
   obtain ⟨d,ws,_,rfl,hd,hl',_⟩:=one (kk 1 _ _ rfl rfl) hc
   cases de.mp hl'.symm
   exact ⟨b,d,rfl,hb,hd⟩
theorem Vp {H:Hp} {D:Addr} {us:List V} {xs:List Dd} {lo:Int} {Q:VK} {E:XK} (hD:H D=some (.lst us)) (al:YN H lo us xs) (hl:us.length<=100) (q:∀ D' us' H',Yg H H'->H' D'=some (.lst us')->YN H' lo us' xs->Q (.ref D') H'):gH 4 [.ref D] H Q E:=by
 refine ⟨.ref D,0,rfl,.lst _ _ D D us us hD trivial hD rfl hl fun i u u' e1 e2=>?_,fun v' H' s h=>?_⟩
 ·have hi:=(Η.mp e1).1
  have hx:xs[i]?=some (xs[i]'(by have:=al.1;omega)):=Λ _;exact US (al.2 i u _ e1 hx) (al.2 i u' _ e2 hx) _ 1
 ·cases h with
  | tup _ _ _ b _ us' ha=>rw [hD] at ha;cases ha
  | lst _ _ _ b ws us' ha nb hb hl' _ kk =>
   rw [hD] at ha
   cases HO.lst.inj (Ε ha)
   refine q b us' H' s hb ⟨by rw [<- hl'];exact al.1,fun i u x e1 e2=>?_⟩;have hi:=(Η.mp e1).1;have hw:us[i]?=some (us[i]'(by omega)):=Λ _;exact (kk i _ u hw e1).dd (al.2 i _ x hw e2)
structure Bt (H:Hp) (lo:Int) (v:V):Prop where
 u:Vx H lo .us v none
 m:Vx H lo .aN v none
 c:∀ k n,f9 H (k+1) (n+3) v
theorem Bt.kt {H H':Hp} (k:Kt H H') {lo:Int} {v:V} (h:Bt H lo v):Bt H' lo v:=⟨h.u.kt k,h.m.kt k,fun i n=>f9.kt k (h.c i n)⟩
theorem X7 {H:Hp} {lo:Int} {v:V} (h:Vx H lo .pk v none):Vx H lo .us v none := .us v none h
theorem Ub {H:Hp} {a:Addr} {z:Str} {u:V} {k n:Nat} (ha:H a=some (.tup [.str z,u])) (hz:ce z=true) (hu:f9 H 0 (n+1) u):f9 H k (n+2) (.ref a) := .tup _ _ a a _ _ ha trivial ha rfl (by simp) fun i u u' e1 e2=>by
 match i,e1,e2 with
 | 0,e1,e2=>cases e1;cases e2;exact .str _ _ _ hz
 | 1,e1,e2=>cases e1;cases e2;exact hu
theorem Ygv {H:Hp} {lo:Int}:Bt H lo .non:=⟨X7 (.gF _ (.not _ .non)),.dF _ .non,fun k n => .non _ _⟩
theorem Jh {H:Hp} {lo:Int} {b:Bool}:Bt H lo (.bl b):=⟨X7 (.gF _ (.not _ (.bl b))),.dF _ (.bl b),fun k n => .bl _ _ _⟩
theorem Ygw {H:Hp} {lo:Int} {z:Str} (h:ce z=true):Bt H lo (.str z):=⟨X7 (.gF _ (.not _ (.str z))),.dF _ (.str z),fun k n => .str _ _ _ h⟩
theorem Ygx {H:Hp} {lo:Int} {a:Addr} (h:H a=some (.dK [])):Bt H lo (.ref a):=⟨X7 (.gF _ (.not _ (.dg a h))),.dF _ (.dg a h),fun k n => .dg _ _ a h⟩
theorem Ygy {H:Hp} {lo:Int} {a:Addr} {z:Str} (h:H a=some (.tup [.str z])) (hz:ce z=true):Bt H lo (.ref a):=⟨X7 (.gF _ (.one a _ h)),.dF _ (.tup a _ h),fun k n => .tup _ _ a a _ _ h trivial h rfl (by simp) fun i u u' e1 e2=>by
 match i,e1,e2 with
 | 0,e1,e2=>cases e1;cases e2;exact .str _ _ _ hz⟩
theorem PB {H:Hp} {lo i:Int} {a:Addr} (h:H a=some (.tup [.str (bx 1),.int i])) (hi:¬ (lo<=i/\i<=lo+7)):Bt H lo (.ref a):=⟨X7 (.pk a 1 _ _ (by decide) h (.jl i hi)),.dF _ (.tup a _ h),fun k n=>Ub h (by decide +kernel) (.int _ _ _)⟩
theorem Ygz {H:Hp} {lo:Int} {a:Addr} {z:Str} (h:H a=some (.tup [.str (bx 1),.str z])) (hz:ce z=true):Bt H lo (.ref a):=⟨X7 (.pk a 1 _ _ (by decide) h (.jG z)),.dF _ (.tup a _ h),fun k n=>Ub h (by decide +kernel) (.str _ _ _ hz)⟩
theorem YgA {H:Hp} {lo:Int} {a b:Addr} (h:H a=some (.tup [.str (bx 0),.ref b])) (hb:H b=some (.lst [])):Bt H lo (.ref a):=⟨X7 (.pk a 0 _ _ (by decide) h (.jH b hb)),.dF _ (.tup a _ h),fun k n=>Ub h (by decide +kernel) (.lst _ _ b b [] [] hb trivial hb rfl (by decide) fun i u u' e=>by cases e)⟩
theorem YfQ {H:Hp} {lo i:Int} {a:Addr} {z:Str} (h:H a=some (.tup [.str z,.int i])) (n0:z≠bx 0) (n1:z≠bx 1) (hz:ce z=true):Bt H lo (.ref a):=⟨X7 (.gF _ (.mk a z _ h n0 n1)),.dF _ (.tup a _ h),fun k n=>Ub h hz (.int _ _ _)⟩
theorem YgB {H:Hp} {lo i:Int} {a:Addr} {z:Str} (h:H a=some (.lst [.str z,.int i])) (hz:ce z=true):Bt H lo (.ref a):=by
 refine ⟨X7 (.gF _ (.not _ (.lst a _ h))),.aN a _ [none,none] h rfl (by simp) (fun i u r e1 e2=>?_) _ rfl,fun k n => .lst _ _ a a _ _ h trivial h rfl (by simp) fun i u u' e1 e2=>?_⟩
 ·match i,e1,e2 with
  | 0,e1,e2=>cases e1;cases e2;exact X7 (.gF _ (.not _ (.str z)))
  | 1,e1,e2=>cases e1;cases e2;exact X7 (.gF _ (.not _ (.int _)))
 ·match i,e1,e2 with
  | 0,e1,e2=>cases e1;cases e2;exact .str _ _ _ hz
  | 1,e1,e2=>cases e1;cases e2;exact .int _ _ _
theorem PK {H:Hp} {lo:Int} {L:Addr} {us ws:List V} {xs zs:List Dd} {v:V} (hL:H L=some (.lst (us++[v]++ws))) (a1:YN H lo us xs) (a2:YN H lo ws zs) (ok1:∀ x∈xs,dB x) (ok2:∀ x∈zs,dB x) (hl:us.length+1+ws.length<=100) (b:Bt H lo v):Vx H lo .aN (.ref L) none/\f9 H 2 4 (.ref L):=by
 have f:∀ {us:List V} {xs:List Dd},F2 (Y6 H lo) us xs->(∀ x∈xs,dB x)->F2 (fun u r=>Vx H lo .us u r) us (xs.map fun x=>some (1+dY x)):=fun h=>by
  induction h with
  | nil=>exact fun _ => .nil
  | cons h t ih=>exact fun k => .cons (.us _ _ (h.vx (k _ (.head _)))) (ih fun x hx=>k x (.tail _ hx))
 have g:=((f a1.f2 ok1).app (F2.cons b.u .nil)).app (f a2.f2 ok2);have len:(us++[v]++ws).length<=100:=by simp only [Κ,ω];omega
 refine ⟨.aN L _ _ hL g.len len g.get _ (if_neg fun h=>?_).symm,.lst _ _ L L _ _ hL trivial hL rfl len fun i u u' e1 e2=>?_⟩
 ·have:=gE.mp h none (by simp)
  cases this
 ·rw [e1] at e2
  cases Ε e2
  have hm:=Χ e1;rcases τ.mp hm with hm | hm
  ·rcases τ.mp hm with hm | hm
   ·obtain ⟨j,hj⟩:=bc hm
    have hx:xs[j]?=some (xs[j]'(by have:=a1.1;have:=(Η.mp hj).1;omega)):=Λ _;have:=a1.2 j u _ hj hx;exact US this this _ 1
   ·rw [ε.mp hm];exact b.c 0 0
  ·obtain ⟨j,hj⟩:=bc hm
   have hx:zs[j]?=some (zs[j]'(by have:=a2.1;have:=(Η.mp hj).1;omega)):=Λ _;have:=a2.2 j u _ hj hx;exact US this this _ 1
theorem Qi {H:Hp} {lo:Int} {L:Addr} {us:List V} {xs:List Dd} (hL:H L=some (.lst us)) (al:YN H lo us xs) (ok:iw xs):(∃ n,Vx H lo .aN (.ref L) (some n))/\f9 H 2 4 (.ref L):=by
 refine ⟨al.vx hL ok.2 ok.1,.lst _ _ L L _ _ hL trivial hL rfl (by have:=al.1;have:=ok.1;omega) fun i u u' e1 e2=>?_⟩;rw [e1] at e2
 cases Ε e2
 have hx:xs[i]?=some (xs[i]'(by have:=al.1;have:=(Η.mp e1).1;omega)):=Λ _;have:=al.2 i u _ e1 hx;exact US this this _ 1
inductive tW (K:Ι) (vs:List V) (H:Hp) (Q:VK) (E_:XK):Prop
 | mk (D:Addr) (us:List V) (xs:List Dd) (c:Nat) (lo:Int) (h0:vs=[.ref D,.int (c:Nat),.int lo]) (h1:H D=some (.lst us)) (h2:YN H lo us xs) (h3:iw xs) (h4:xs.length<=3) (h5:lo.natAbs.log2<1000) (h6:∀ v r H',Yg H H'->Vx H' lo .aN v r->f9 H' 2 4 v->Q v H')
theorem Z4J {k:Nat}  (R:g.Raw "_law_spoiled" "_law_spoiled" Cj ["_law_deeds","_law_cell","_law_low"]) (Zz:g.Fn k "_law_copy" ["_law_value"] (gH 4)) (aH:g.mg "len"=none) (eN:g.mg "str"=none):g.Fn (k+1) "_law_spoiled" ["_law_deeds","_law_cell","_law_low"] (tW g.K):=by
 refine R.fn rN (fun vs H Q E h=>by obtain ⟨D,us,xs,c,lo,rfl,hD,al,ok,h3,hlo,q⟩:=h;rfl) fun f_ cdv A outer s H vs Q E hr h=>?_
 obtain ⟨D,us,xs,c,lo,rfl,hD,al,ok,h3,hlo,q⟩:=h;refine ⟨_,(@Yd _ _ _ _ _ (@Yv _ _ (3) _ _ _ _ rN.nd rfl (.inl rfl) (@Y0 _ _ _ _ (@Ya _ _ _ _ _ Xk (@Ya _ _ _ _ _ XT (@Ya _ _ _ _ _ Yx (@Ya _ _ _ _ _ (@YR _ _ _ _ _ (@Ya _ _ _ _ _ Yx Yc (by rfl))) (@Ya _ _ _ _ _ (@YR _ _ _ _ _ (@Ya _ _ _ _ _ Yx (@Ya _ _ _ _ _ (@Y0 _ _ _ _ Yc) Yc (Up _ _ _ _)) (by rfl))) (@Ya _ _ _ _ _ (@YR _ _ _ _ _ (@Ya _ _ _ _ _ Yx (@Ya _ _ _ _ _ (@Ys _ _ _ _ _ _ _ _ Xa (pv 2) Yh) Yc (by rfl)) (by rfl))) (@Ya _ _ _ _ _ (@YR _ _ _ _ _ (@Ya _ _ _ _ _ Yx (@Ya _ _ _ _ _ (@Ys _ _ _ _ _ _ _ _ Wh (pv 2) Yh) Yc (by rfl)) (by rfl))) (@Ya _ _ _ _ _ (@Y0 _ _ _ _ (@Ya _ _ _ _ _ Yx (@Ya _ _ _ _ _ (pv 2) Yc (by rfl)) (by rfl))) (@Ya _ _ _ _ _ (@YR _ _ _ _ _ (@Ya _ _ _ _ _ Yx (@Ya _ _ _ _ _ (pv 2) Yc (by rfl)) (by rfl))) Yc (YY _ _ _ _ _)) (Up _ _ _ _)) (YY _ _ _ _ _)) (YY _ _ _ _ _)) (YY _ _ _ _ _)) (YY _ _ _ _ _)) (by rfl)) (by rfl)) (by rfl))) (by rfl) (by first | exact .inl rfl | exact .inr rfl | assumption)) (@Yd _ _ _ _ _ (@Yv _ _ (3) _ _ _ _ rN.nd rfl (.inl rfl) (@Ys _ _ _ _ _ _ _ _ Xu (pv 3) (@Y0 _ _ _ _ (@Ya _ _ _ _ _ YdK (@Ya _ _ _ _ _ (@YR _ _ _ _ _ (@Ya _ _ _ _ _ Yx (@Ya _ _ _ _ _ (@Wz _ _ _ _ _ _ _ _ _ _ eN Q0 (@Ya _ _ _ _ _ (pv 2) Yc (by rfl)) (by decide +kernel) (by rfl) (by rfl) (by decide) (by decide) (by rfl) (by rfl)) Yc (by rfl)) (by rfl))) Yc (YY _ _ _ _ _)) (by rfl)))) (by rfl) (by first | exact .inl rfl | exact .inr rfl | assumption)) (@Yd _ _ _ _ _ (@Yv _ _ (4) _ _ _ _ rN.nd rfl (.inl rfl) (@Yu _ _ _ _ _ _ _ Xo (pv 3) (@Ys _ _ _ _ _ _ _ _ XI (@Ys _ _ _ _ _ _ _ _ Wp (pv 1) Yh) Yh) (fun _ _=>rfl)) (by rfl) (by first | exact .inl rfl | exact .inr rfl | assumption)) (@Yd _ _ _ _ _ (@Yv _ _ (5) _ _ _ _ rN.nd rfl (.inl rfl) (@Ys _ _ _ _ _ _ _ _ XI (@Ys _ _ _ _ _ _ _ _ Wp (pv 1) Yh) (@Ys _ _ _ _ _ _ _ _ Xa (@YA _ _ _ _ _ _ _ _ _ _ aH YF (@Ya _ _ _ _ _ (pv 0) Yc (by rfl)) (by decide +kernel) (by rfl) (by rfl) (by decide) (by decide) (by rfl) (by rfl)) Yh)) (by rfl) (by first | exact .inl rfl | exact .inr rfl | assumption)) (@Yd _ _ _ _ _ (@Yy _ _ _ _ _ _ _ _ (@Yt _ _ _ _ _ _ _ _ YQ (@Ys _ _ _ _ _ _ _ _ XI (pv 1) Yh) Yh (Yq _)) (@Yf _ _ _ (@Yl _ _ _ _ (@Yr _ _ _ _ _ _ _ _ _ _ _ _ Zz hr (@Ya _ _ _ _ _ (pv 0) Yc (by rfl)) (by omega) (by rfl) (by rfl) (by decide) (by rfl) (by rfl)))) Yp) (@Yd _ _ _ _ _ (@Yy _ _ _ _ _ _ _ _ (@Yt _ _ _ _ _ _ _ _ YQ (@Ys _ _ _ _ _ _ _ _ XI (pv 1) Yh) Yh (Yq _)) (@Yf _ _ _ (@Yl _ _ _ _ (pv 4))) Yp) (@Yd _ _ _ _ _ (@Yy _ _ _ _ _ _ _ _ (@Yt _ _ _ _ _ _ _ _ YQ (@Ys _ _ _ _ _ _ _ _ XI (pv 1) Yh) Yh (Yq _)) (@Yf _ _ _ (@Yl _ _ _ _ (@Ys _ _ _ _ _ _ _ _ Xu (@Ys _ _ _ _ _ _ _ _ Xu (@Yr _ _ _ _ _ _ _ _ _ _ _ _ Zz hr (@Ya _ _ _ _ _ (@Xr _ _ _ _ _ _ _ _ _ _ WN (pv 0) Xx (@Xy _ _ _ (pv 5))) Yc (by rfl)) (by omega) (by rfl) (by rfl) (by decide) (by rfl) (by rfl)) (@Y0 _ _ _ _ (@Ya _ _ _ _ _ (pv 4) Yc (by rfl)))) (@Yr _ _ _ _ _ _ _ _ _ _ _ _ Zz hr (@Ya _ _ _ _ _ (@Xr _ _ _ _ _ _ _ _ _ _ WN (pv 0) (@Xy _ _ _ (pv 5)) Xx) Yc (by rfl)) (by omega) (by rfl) (by rfl) (by decide) (by rfl) (by rfl))))) Yp) (@Yf _ _ _ (@Yl _ _ _ _ (@Ys _ _ _ _ _ _ _ _ Xu (@Ys _ _ _ _ _ _ _ _ Xu (@Yr _ _ _ _ _ _ _ _ _ _ _ _ Zz hr (@Ya _ _ _ _ _ (@Xr _ _ _ _ _ _ _ _ _ _ WN (pv 0) Xx (@Xy _ _ _ (pv 5))) Yc (by rfl)) (by omega) (by rfl) (by rfl) (by decide) (by rfl) (by rfl)) (@Y0 _ _ _ _ (@Ya _ _ _ _ _ (pv 4) Yc (by rfl)))) (@Yr _ _ _ _ _ _ _ _ _ _ _ _ Zz hr (@Ya _ _ _ _ _ (@Xr _ _ _ _ _ _ _ _ _ _ WN (pv 0) (@Xy _ _ _ (@Ys _ _ _ _ _ _ _ _ Xa (pv 5) Yh)) Xx) Yc (by rfl)) (by omega) (by rfl) (by rfl) (by decide) (by rfl) (by rfl)))))))))))),?_⟩;refine Ym fun R rr=>?_
 walk_at "rd";refine ⟨few (by decide),fun p0 g0=>?_⟩;have w0:=Yg.aj g0 (.tup [.str "ask"]);have e0:upd H p0 (.tup [.str "ask"]) p0=some (.tup [.str "ask"]):=Yb;generalize upd H p0 (.tup [.str "ask"])=K0 at w0 e0 ⊢;refine ⟨few (by decide),fun p1 g1=>?_⟩;have w1:=Yg.aj g1 (.lst []);have e1:upd K0 p1 (.lst []) p1=some (.lst []):=Yb;generalize upd K0 p1 (.lst [])=K1 at w1 e1 ⊢;refine ⟨few (by decide),fun p2 g2=>?_⟩;have w2:=Yg.aj g2 (.tup [.str "ask",.ref p1]);have e2:upd K1 p2 (.tup [.str "ask",.ref p1]) p2=some (.tup [.str "ask",.ref p1]):=Yb;generalize upd K1 p2 (.tup [.str "ask",.ref p1])=K2 at w2 e2 ⊢;refine ⟨few (by decide),fun p3 g3=>?_⟩;have w3:=Yg.aj g3 (.tup [.str "put",.int (lo+8)]);have e3:upd K2 p3 (.tup [.str "put",.int (lo+8)]) p3=some (.tup [.str "put",.int (lo+8)]):=Yb;generalize upd K2 p3 (.tup [.str "put",.int (lo+8)])=K3 at w3 e3 ⊢;refine ⟨few (by decide),fun p4 g4=>?_⟩;have w4:=Yg.aj g4 (.tup [.str "put",.int (lo - 1)]);have e4:upd K3 p4 (.tup [.str "put",.int (lo - 1)]) p4=some (.tup [.str "put",.int (lo - 1)]):=Yb;generalize upd K3 p4 (.tup [.str "put",.int (lo - 1)])=K4 at w4 e4 ⊢;refine ⟨few (by decide),fun p5 g5=>?_⟩;have w5:=Yg.aj g5 (.lst [.str "put",.int lo]);have e5:upd K4 p5 (.lst [.str "put",.int lo]) p5=some (.lst [.str "put",.int lo]):=Yb;generalize upd K4 p5 (.lst [.str "put",.int lo])=K5 at w5 e5 ⊢;refine ⟨few (by decide),fun p6 g6=>?_⟩;have w6:=Yg.aj g6 (.tup [.str "give",.int lo]);have e6:upd K5 p6 (.tup [.str "give",.int lo]) p6=some (.tup [.str "give",.int lo]):=Yb;generalize upd K5 p6 (.tup [.str "give",.int lo])=K6 at w6 e6 ⊢;refine ⟨few (by decide),fun p7 g7=>rr _ _ (Ym fun R rr=>?_)⟩;have v6:=Yg.aj g7 (.lst [V.non,V.bl true,V.str (ah "ask"),V.ref p0,V.ref p2,V.ref p3,V.ref p4,V.ref p5,V.ref p6]);have e7:upd K6 p7 (.lst [V.non,V.bl true,V.str (ah "ask"),V.ref p0,V.ref p2,V.ref p3,V.ref p4,V.ref p5,V.ref p6]) p7=some _:=Yb;generalize upd K6 p7 (.lst [V.non,V.bl true,V.str (ah "ask"),V.ref p0,V.ref p2,V.ref p3,V.ref p4,V.ref p5,V.ref p6])=K7 at v6 e7;have v5:=w6.trans v6;have v4:=w5.trans v5;have v3:=w4.trans v4;have v2:=w3.trans v3;have v1:=w2.trans v2;have v0:=w1.trans v1;have sK:=w0.trans v0;have b3:Bt K7 lo (.ref p0):=Ygy (v0 _ _ e0) (by decide +kernel);have b4:Bt K7 lo (.ref p2):=YgA (v2 _ _ e2) (v1 _ _ e1);have b5:Bt K7 lo (.ref p3):=PB (v3 _ _ e3) (by omega);have b6:Bt K7 lo (.ref p4):=PB (v4 _ _ e4) (by omega);have b7:Bt K7 lo (.ref p5):=YgB (v5 _ _ e5) (by decide +kernel);have b8:Bt K7 lo (.ref p6):=YfQ (v6 _ _ e6) (by decide +kernel) (by decide +kernel) (by decide +kernel);clear v0 v1 v2 v3 v4 v5 v6 w0 w1 w2 w3 w4 w5 w6 e0 e1 e2 e3 e4 e5 e6 g0 g1 g2 g3 g4 g5 g6 g7 K0 K1 K2 K3 K4 K5 K6;walk_at "rd";unfold J8;walk_at "rd";intro p8 g8;have w8:=Yg.aj g8 (.dK []);have e8:upd K7 p8 (.dK []) p8=some (.dK []):=Yb;generalize upd K7 p8 (.dK [])=K8 at w8 e8 ⊢;refine ⟨by omega,few (by decide),fun p9 g9=>?_⟩;have w9:=Yg.aj g9 (.tup [.str "put",.str (ah (toString lo))]);have e9:upd K8 p9 (.tup [.str "put",.str (ah (toString lo))]) p9=some (.tup [.str "put",.str (ah (toString lo))]):=Yb;generalize upd K8 p9 (.tup [.str "put",.str (ah (toString lo))])=K9 at w9 e9 ⊢;refine ⟨few (by decide),fun FJ PL=>?_⟩;have w10:=Yg.aj PL (.lst [.ref p8,.ref p9]);have e10:upd K9 FJ (.lst [.ref p8,.ref p9]) FJ=some (.lst [.ref p8,.ref p9]):=Yb;generalize upd K9 FJ (.lst [.ref p8,.ref p9])=PN at w10 e10 ⊢;have x9:=w9.trans w10;have x8:=w8.trans x9;refine ⟨_,x8 _ _ e7,_,e10,few (by simp),fun FN PX=>rr _ _ (Ym fun R rr=>?_)⟩;have x10:=Yg.aj PX (.lst ([V.non,V.bl true,V.str (ah "ask"),V.ref p0,V.ref p2,V.ref p3,V.ref p4,V.ref p5,V.ref p6]++[V.ref p8,V.ref p9]));have vA:upd PN FN (.lst ([V.non,V.bl true,V.str (ah "ask"),V.ref p0,V.ref p2,V.ref p3,V.ref p4,V.ref p5,V.ref p6]++[V.ref p8,V.ref p9])) FN=some _:=Yb;generalize upd PN FN (.lst ([V.non,V.bl true,V.str (ah "ask"),V.ref p0,V.ref p2,V.ref p3,V.ref p4,V.ref p5,V.ref p6]++[V.ref p8,V.ref p9]))=K at x10 vA;have sA:=sK.trans (x8.trans x10);have kx:=Yn (x8.trans x10);obtain ⟨j,hj,ej⟩:∃ j:Nat,j<11/\(c:Int) / 4%11=(j:Int):=⟨((c:Int) / 4%11).toNat,by omega,by omega⟩;obtain ⟨v,hv,bv⟩:∃ v,([V.non,V.bl true,V.str (ah "ask"),V.ref p0,V.ref p2,V.ref p3,V.ref p4,V.ref p5,V.ref p6]++[V.ref p8,V.ref p9])[j]?=some v/\Bt K lo v:=by
  match j,hj with
  | 0,_=>exact ⟨_,rfl,Ygv⟩
  | 1,_=>exact ⟨_,rfl,Jh⟩
  | 2,_=>exact ⟨_,rfl,Ygw (by decide +kernel)⟩
  | 3,_=>exact ⟨_,rfl,b3.kt kx⟩
  | 4,_=>exact ⟨_,rfl,b4.kt kx⟩
  | 5,_=>exact ⟨_,rfl,b5.kt kx⟩
  | 6,_=>exact ⟨_,rfl,b6.kt kx⟩
  | 7,_=>exact ⟨_,rfl,b7.kt kx⟩
  | 8,_=>exact ⟨_,rfl,b8.kt kx⟩
  | 9,_=>exact ⟨_,rfl,Ygx (x10 _ _ (x9 _ _ e8))⟩
  | 10,_=>exact ⟨_,rfl,Ygz (x10 _ _ (w10 _ _ e9)) (YdZ _)⟩
 clear b3 b4 b5 b6 b7 b8 kx x8 x9 x10 w8 w9 w10 e8 e9 e10 e7 g8 g9 PL PX sK;have hD':=sA _ _ hD;have iJ:=al.tp (YX (Yn sA));have ul:=al.1;have ol:=ok.1;walk_at "rd";rw [ej];refine ⟨Wa (by decide) (by decide),by decide,_,aA.of vA,_,Yk hv,rr _ _ (Ym fun R rr=>?_)⟩;walk_at "rd";obtain ⟨n,hn,en⟩:∃ z:Nat,z<=us.length/\(c:Int) / 44%((us.length:Int)+1)=(z:Int):=by
  have h1:=jS ((c:Int) / 44) (show ((us.length:Int)+1)≠0 by omega);have h2:=Int.emod_lt_of_pos ((c:Int) / 44) (show 0<((us.length:Int)+1) by omega);exact ⟨((c:Int) / 44%((us.length:Int)+1)).toNat,by omega,by omega⟩
 refine ⟨Wa (by decide) (by decide),_,.inl (aA.of hD'),by omega,rr _ _ (Ym fun R rr=>?_)⟩;rw [en];walk_at "rd";refine ⟨by decide,UX (fun _=>?_) (fun _=>rr _ _ (Ym fun R rr=>?_))⟩
 ·refine Vp hD' iJ (by omega) fun D2 cg H2 s2 hD2 ju=>?_
  obtain ⟨⟨m,h1⟩,h2⟩:=Qi hD2 ju ok;exact q _ _ H2 (sA.trans s2) h1 h2
 walk_at "rd";refine ⟨by decide,UX (fun _=>q v _ K sA bv.m (bv.c 1 1)) (fun _=>rr _ _ (Ym fun R rr=>?_))⟩;walk_at "rd";refine ⟨by decide,UX (fun _=>?_) (fun _=>rr _ _ ?_)⟩
 ·refine ⟨_,aA.of hD',fun q1 h1=>?_⟩
  rw [Wq];have y1:=Yg.aj h1 (.lst (us.take n));refine Vp Yb ((iJ.tp (YX (Yn y1))).f2.take n).al (by rw [ν];omega) fun D2 cg H2 s2 hD2 ju=>⟨few (by decide),fun q2 h2=>⟨D2,rfl,?_⟩⟩
  have y2:=Yg.aj h2 (.lst [v]);have FP:=ju.1;rw [ν] at FP
  refine ⟨_,y2 _ _ hD2,_,Yb,few (by simp;omega),fun q3 h3'=>?_⟩;have y3:=Yg.aj h3' (.lst (cg++[v]));have sB:=((y1.trans s2).trans y2).trans y3;refine ⟨_,aA.of (sB _ _ hD'),fun q4 h4=>?_⟩;rw [Vj];have y4:=Yg.aj h4 (.lst (us.drop (n)));refine Vp Yb ((iJ.tp (YX (Yn (sB.trans y4)))).f2.drop (n)).al (by rw [aI];omega) fun D3 eG H3 s3 n6 tX=>⟨D3,rfl,?_⟩
  have FQ:=tX.1;rw [aI] at FQ
  refine ⟨_,s3 _ _ (y4 _ _ Yb),_,n6,few (by simp;omega),fun L gL=>?_⟩;have y5:=Yg.aj gL (.lst (cg++[v]++eG));have sC:=(y4.trans s3).trans y5;have m:=PK (lo:=lo) (Yb (H:=H3) (a:=L) (o := .lst (cg++[v]++eG))) (ju.tp (YX (Yn ((y2.trans y3).trans sC)))) (tX.tp (YX (Yn y5))) (fun x hx=>ok.2 x (eB hx)) (fun x hx=>ok.2 x (gS hx)) (by omega) (bv.kt (Yn (sB.trans sC)));exact q _ _ _ (sA.trans (sB.trans sC)) m.1 m.2
 ·walk_at "rd"
  refine ⟨_,aA.of hD',fun q1 h1=>?_⟩;rw [Wq];have y1:=Yg.aj h1 (.lst (us.take n));refine Vp Yb ((iJ.tp (YX (Yn y1))).f2.take n).al (by rw [ν];omega) fun D2 cg H2 s2 hD2 ju=>⟨few (by decide),fun q2 h2=>⟨D2,rfl,?_⟩⟩
  have y2:=Yg.aj h2 (.lst [v]);have FP:=ju.1;rw [ν] at FP
  refine ⟨_,y2 _ _ hD2,_,Yb,few (by simp;omega),fun q3 h3'=>?_⟩;have y3:=Yg.aj h3' (.lst (cg++[v]));have sB:=((y1.trans s2).trans y2).trans y3;refine ⟨_,aA.of (sB _ _ hD'),fun q4 h4=>?_⟩;rw [show ((n:Int)+1)=((n+1:Nat):Int) by omega];rw [Vj];have y4:=Yg.aj h4 (.lst (us.drop (n+1)));refine Vp Yb ((iJ.tp (YX (Yn (sB.trans y4)))).f2.drop (n+1)).al (by rw [aI];omega) fun D3 eG H3 s3 n6 tX=>⟨D3,rfl,?_⟩
  have FQ:=tX.1;rw [aI] at FQ
  refine ⟨_,s3 _ _ (y4 _ _ Yb),_,n6,few (by simp;omega),fun L gL=>?_⟩;have y5:=Yg.aj gL (.lst (cg++[v]++eG));have sC:=(y4.trans s3).trans y5;have m:=PK (lo:=lo) (Yb (H:=H3) (a:=L) (o := .lst (cg++[v]++eG))) (ju.tp (YX (Yn ((y2.trans y3).trans sC)))) (tX.tp (YX (Yn y5))) (fun x hx=>ok.2 x (eB hx)) (fun x hx=>ok.2 x (gS hx)) (by omega) (bv.kt (Yn (sB.trans sC)));exact q _ _ _ (sA.trans (sB.trans sC)) m.1 m.2
theorem Ji (z:Int):(z%10^df 60 - 5*10^df 59).natAbs.log2<1000:=by
 have c0:0<=z%10^df 60:=jS _ (by decide);have c1:z%10^df 60<10^df 60:=Int.emod_lt_of_pos _ (by decide);generalize z%10^df 60=y at c0 c1 ⊢;have h:(y - 5*10^df 59).natAbs<2^200:=by
  have e1:(10:Int)^df 60=1000000000000000000000000000000000000000000000000000000000000:=by decide +kernel
  have e2:(10:Int)^df 59=100000000000000000000000000000000000000000000000000000000000:=by decide +kernel
  have e3:(2:Nat)^200=1606938044258990275541962092341162602522202993782792835301376:=by decide +kernel
  rw [e1] at c1
  rw [e2,e3];omega
 by_cases h0:(y - 5*10^df 59).natAbs=0
 ·rw [h0];decide
 ·have:=(lb h0).mpr h
  omega
theorem YN.xV {H:Hp} {lo:Int} {us:List V} {xs:List Dd} {v:V} {x:Dd} (h:YN H lo us xs) (hd:Y6 H lo v x):YN H lo (us++[v]) (xs++[x]):=(h.f2.app (.cons hd .nil)).al
theorem Jj {H:Hp} {lo:Int} {D D':Addr} {us us':List V} {xs:List Dd} (h:H D=some (.lst us)) (al:YN H lo us xs) (h':H D'=some (.lst us')) (iJ:YN H lo us' xs) (hl:xs.length<=100) (k n:Nat):Cz (fun _=>True) H H k (n+3) (.ref D) (.ref D') := .lst _ _ D D' us us' h trivial h' (by rw [al.1,iJ.1]) (by rw [al.1];exact hl) fun i u u' e1 e2=>by
 have hx:xs[i]?=some (xs[i]'(by have:=al.1;have:=(Η.mp e1).1;omega)):=Λ _;exact US (al.2 i u _ e1 hx) (iJ.2 i u' _ e2 hx) _ n
theorem P0 {H:Hp} {D D':Addr} {v v':V} {n:Nat} (h:H D=some (.lst [v])) (h':H D'=some (.lst [v'])) (c:Cz (fun _=>True) H H 0 n v v'):Cz (fun _=>True) H H 0 (n+1) (.ref D) (.ref D') := .lst _ _ D D' _ _ h trivial h' rfl (by simp) fun i u u' e1 e2=>by
 match i,e1,e2 with
 | 0,e1,e2=>cases e1;cases e2;exact c
theorem Vq {H:Hp} {D D':Addr} {u v u' v':V} {n k:Nat} (h:H D=some (.tup [u,v])) (h':H D'=some (.tup [u',v'])) (c:Cz (fun _=>True) H H 0 n u u') (c':Cz (fun _=>True) H H 0 n v v'):Cz (fun _=>True) H H k (n+1) (.ref D) (.ref D') := .tup _ _ D D' _ _ h trivial h' rfl (by simp) fun i u u' e1 e2=>by
 match i,e1,e2 with
 | 0,e1,e2=>cases e1;cases e2;exact c
 | 1,e1,e2=>cases e1;cases e2;exact c'
theorem Jk {H:Hp} {lo:Int} {m:Addr} (h:Y7 H lo m .pk):f9 H 0 6 (.ref m):=by
 obtain ⟨b,c0,c1,p0,p1,e0,hm,hP⟩:=h;refine Vq hm hm (.str _ _ _ (by decide +kernel)) (Vq hP.b hP.b (Vq hP.c0 hP.c0 (.str _ _ _ (by decide +kernel)) (Vq hP.p0 hP.p0 (.str _ _ _ (by decide +kernel)) (.tup _ _ e0 e0 [] [] hP.e0 trivial hP.e0 rfl (by simp) fun i u u' e=>by cases e))) (Vq hP.c1 hP.c1 (.str _ _ _ (by decide +kernel)) (.tup _ _ p1 p1 _ _ hP.p1 trivial hP.p1 rfl (by simp) fun i u u' e1 e2=>?_)))
 match i,e1,e2 with
 | 0,e1,e2=>cases e1;cases e2;exact .str _ _ _ (by decide +kernel)
 | 1,e1,e2=>cases e1;cases e2;exact .int _ _ _
 | 2,e1,e2=>cases e1;cases e2;exact .int _ _ _
theorem YeB {k:Nat} {Z5 Z4 aW au aQ ao aY aF:Addr} (Fv:g.fV k "shrunk_deeds" ["book","shape","begin","done","model_begin","model_done","deeds"] (nW g au ao Z5 Z4)) (xW:g.Fn k "_law_mix" ["_law_script","_law_k","_law_step"] (Pu g.K)) (Zz:g.Fn k "_law_copy" ["_law_value"] (gH 4)) (qH:g.Fn k "_law_deed" ["_law_cell","_law_low"] (Px)) (lY:g.Fn k "_law_spoiled" ["_law_deeds","_law_cell","_law_low"] (tW g.K)) (tQ:g.Fn k "_law_thing" ["_law_bad"] (Fi g aF)) (lK:g.Fn k "_law_due" ["_law_book","_law_things","_law_bad","_law_low"] (tV g aF au ao Z5 Z4)) (Z3:g.mg "isinstance"=none) (aH:g.mg "len"=none) (aP:g.mg "list"=none) (Zw:g.mg "range"=none) (hnd:([au,ao,aF]:List Addr).Nodup):VR g k ["_law_script","_law_cell","_law_low","_law_part","_law_book","_law_deeds","_law_bad","_law_more","_law_one","_law_other","_law_found"] "law" QS (V6 g.K [("deed_judge",aW,au),("shrunk_deeds",aQ,ao),("_law_thing",aY,aF)]):=by
 refine fun f_ cdv A outer s H vs Q E hr h=>?_
 obtain ⟨a,ns,rfl,hS,hl,ht,q⟩:=h;refine ⟨_,(@Yd _ _ _ _ _ (@Yv _ _ (1) _ _ _ _ XS.nd rfl (.inl rfl) (@Yr _ _ _ _ _ _ _ _ _ _ _ _ xW hr (@Ya _ _ _ _ _ (pv 0) (@Ya _ _ _ _ _ Yh (@Ya _ _ _ _ _ Yh Yc (by rfl)) (by rfl)) (by rfl)) (by omega) (by rfl) (by rfl) (by decide) (by rfl) (by rfl)) (by rfl) (by first | exact .inl rfl | exact .inr rfl | assumption)) (@Yd _ _ _ _ _ (@Yv _ _ (2) _ _ _ _ XS.nd rfl (.inr rfl) (@Ys _ _ _ _ _ _ _ _ Wh (@Ys _ _ _ _ _ _ _ _ XI (@Yr _ _ _ _ _ _ _ _ _ _ _ _ xW hr (@Ya _ _ _ _ _ (pv 0) (@Ya _ _ _ _ _ Yh (@Ya _ _ _ _ _ Yh Yc (by rfl)) (by rfl)) (by rfl)) (by omega) (by rfl) (by rfl) (by decide) (by rfl) (by rfl)) (@Ys _ _ _ _ _ _ _ _ Uy Yh Yh)) (@Ys _ _ _ _ _ _ _ _ U0 Yh (@Ys _ _ _ _ _ _ _ _ Uy Yh Yh))) (by rfl) (by first | exact .inl rfl | exact .inr rfl | assumption)) (@Yd _ _ _ _ _ (@Yv _ _ (3) _ _ _ _ XS.nd rfl (.inl rfl) (@YR _ _ _ _ _ (@Ya _ _ _ _ _ Yx (@Ya _ _ _ _ _ (@YR _ _ _ _ _ (@Ya _ _ _ _ _ (@YR _ _ _ _ _ (@Ya _ _ _ _ _ Yx (@Ya _ _ _ _ _ (@YR _ _ _ _ _ (@Ya _ _ _ _ _ Yx (@Ya _ _ _ _ _ (@YR _ _ _ _ _ Yc) Yc (YY _ _ _ _ _)) (by rfl))) Yc (YY _ _ _ _ _)) (by rfl))) (@Ya _ _ _ _ _ (@YR _ _ _ _ _ (@Ya _ _ _ _ _ Yx (@Ya _ _ _ _ _ (@YR _ _ _ _ _ (@Ya _ _ _ _ _ Yx (@Ya _ _ _ _ _ (pv 2) (@Ya _ _ _ _ _ (@Ys _ _ _ _ _ _ _ _ Xa (pv 2) Yh) Yc (by rfl)) (by rfl)) (by rfl))) Yc (YY _ _ _ _ _)) (by rfl))) Yc (YY _ _ _ _ _)) (YY _ _ _ _ _))) Yc (YY _ _ _ _ _)) (by rfl))) (by rfl) (by first | exact .inl rfl | exact .inr rfl | assumption)) (@Yd _ _ _ _ _ (@Yv _ _ (4) _ _ _ _ XS.nd rfl (.inl rfl) (@Y0 _ _ _ _ (@Ya _ _ _ _ _ (@YR _ _ _ _ _ (@Ya _ _ _ _ _ Yx (@Ya _ _ _ _ _ (pv 3) Yc (by rfl)) (by rfl))) Yc (YY _ _ _ _ _))) (by rfl) (by first | exact .inl rfl | exact .inr rfl | assumption)) (@Yd _ _ _ _ _ (@Kw _ (5) _ _ _ _ _ _ _ _ _ ([none,some 2,some 0]) ((["_law_k","_law_low","_law_script"]:List Str)) _ (YW 0) _ _ XS.nd rfl (.inl rfl) (.own (.cap (i:=2) rfl rfl (by first | exact .inl rfl | exact .inr rfl) (.cap (i:=0) rfl rfl (by first | exact .inl rfl | exact .inr rfl) .nil))) rfl (@WZ _ _ _ _ _ _ rfl Zw (@Ya _ _ _ _ _ (@Ys _ _ _ _ _ _ _ _ XI (pv 1) Yh) Yc (by rfl)) (by rfl)) (fun cl C s₀ H₀ fp pn=>(@YD _ _ (0) _ (show bu (["_law_k","_law_low","_law_script"]:List Str) by decide +kernel) rfl (.inl rfl) (.inr rfl))) (fun cl C s₀ H₀ fp pn=>Xp) (fun cl C s₀ H₀ fp pn=>(@Yr _ _ _ _ _ _ _ _ _ _ _ _ qH hr (@Ya _ _ _ _ _ (@Yr _ _ _ _ _ _ _ _ _ _ _ _ xW hr (@Ya _ _ _ _ _ (pv 2) (@Ya _ _ _ _ _ (@Ys _ _ _ _ _ _ _ _ Xa Yh (pv 0)) (@Ya _ _ _ _ _ Yh Yc (by rfl)) (by rfl)) (by rfl)) (by omega) (by rfl) (by rfl) (by decide) (by rfl) (by rfl)) (@Ya _ _ _ _ _ (pv 1) Yc (by rfl)) (by rfl)) (by omega) (by rfl) (by rfl) (by decide) (by rfl) (by rfl))) (by intro x hx;simp at hx;first | (subst hx;exact .inl rfl) | (rcases hx with rfl | rfl<;>exact .inl rfl) | (rcases hx with rfl | rfl | rfl<;>exact .inl rfl) | (rcases hx with rfl | rfl | rfl | rfl<;>exact .inl rfl) | (rcases hx with rfl | rfl | rfl | rfl | rfl<;>exact .inl rfl)) (by rfl) (by decide) (by decide +kernel) (by intro _;rfl) (by rfl) (by first | exact .inl rfl | exact .inr rfl | assumption)) (@Yd _ _ _ _ _ (@Yv _ _ (6) _ _ _ _ XS.nd rfl (.inl rfl) (@Ys _ _ _ _ _ _ _ _ Wh (@Ys _ _ _ _ _ _ _ _ XI (@Ys _ _ _ _ _ _ _ _ Wp (pv 1) Yh) Yh) Yh) (by rfl) (by first | exact .inl rfl | exact .inr rfl | assumption)) (@Yd _ _ _ _ _ (@Yy _ _ _ _ _ _ _ _ (@Xt _ _ _ _ (@YT _ _ _ (@Yr _ _ _ _ _ _ _ _ _ _ _ _ lK hr (@Ya _ _ _ _ _ (pv 4) (@Ya _ _ _ _ _ (@Yr _ _ _ _ _ _ _ _ _ _ _ _ lY hr (@Ya _ _ _ _ _ (pv 5) (@Ya _ _ _ _ _ (@Yr _ _ _ _ _ _ _ _ _ _ _ _ xW hr (@Ya _ _ _ _ _ (pv 0) (@Ya _ _ _ _ _ Yh (@Ya _ _ _ _ _ Yh Yc (by rfl)) (by rfl)) (by rfl)) (by omega) (by rfl) (by rfl) (by decide) (by rfl) (by rfl)) (@Ya _ _ _ _ _ (pv 2) Yc (by rfl)) (by rfl)) (by rfl)) (by omega) (by rfl) (by rfl) (by decide) (by rfl) (by rfl)) (@Ya _ _ _ _ _ (pv 6) (@Ya _ _ _ _ _ (pv 2) Yc (by rfl)) (by rfl)) (by rfl)) (by rfl)) (by omega) (by rfl) (by rfl) (by decide) (by rfl) (by rfl)) (by intro _;rfl))) (@Yf _ _ _ (@Yl _ _ _ _ XT)) Yp) (@Yd _ _ _ _ _ (@Yy _ _ _ _ _ _ _ _ (@Xt _ _ _ _ (@YT _ _ _ (@Yr _ _ _ _ _ _ _ _ _ _ _ _ lK hr (@Ya _ _ _ _ _ (pv 4) (@Ya _ _ _ _ _ (@Yr _ _ _ _ _ _ _ _ _ _ _ _ Zz hr (@Ya _ _ _ _ _ (pv 5) Yc (by rfl)) (by omega) (by rfl) (by rfl) (by decide) (by rfl) (by rfl)) (@Ya _ _ _ _ _ (@YA _ _ _ _ _ _ _ _ _ _ aH YF (@Ya _ _ _ _ _ (pv 5) Yc (by rfl)) (by decide +kernel) (by rfl) (by rfl) (by decide) (by decide) (by rfl) (by rfl)) (@Ya _ _ _ _ _ (pv 2) Yc (by rfl)) (by rfl)) (by rfl)) (by rfl)) (by omega) (by rfl) (by rfl) (by decide) (by rfl) (by rfl)) (by intro _;rfl))) (@Yf _ _ _ (@Yl _ _ _ _ XT)) Yp) (@Yd _ _ _ _ _ (@Yv _ _ (7) _ _ _ _ XS.nd rfl (.inl rfl) (@Ys _ _ _ _ _ _ _ _ Xu (pv 5) (@Y0 _ _ _ _ (@Ya _ _ _ _ _ (@YR _ _ _ _ _ (@Ya _ _ _ _ _ Yx (@Ya _ _ _ _ _ (@YR _ _ _ _ _ Yc) Yc (YY _ _ _ _ _)) (by rfl))) Yc (YY _ _ _ _ _)))) (by rfl) (by first | exact .inl rfl | exact .inr rfl | assumption)) (@Yd _ _ _ _ _ (@Yv _ _ (8) _ _ _ _ XS.nd rfl (.inl rfl) (@Yr _ _ _ _ _ _ _ _ _ _ _ _ tQ hr (@Ya _ _ _ _ _ (@W0 _ _ _ _ _ _ WE Yh) Yc (by rfl)) (by omega) (by rfl) (by rfl) (by decide) (by rfl) (by rfl)) (by rfl) (by first | exact .inl rfl | exact .inr rfl | assumption)) (@Yd _ _ _ _ _ (@Yv _ _ (9) _ _ _ _ XS.nd rfl (.inl rfl) (@Yr _ _ _ _ _ _ _ _ _ _ _ _ tQ hr (@Ya _ _ _ _ _ (@YA _ _ _ _ _ _ _ _ _ _ aH YF (@Ya _ _ _ _ _ (pv 5) Yc (by rfl)) (by decide +kernel) (by rfl) (by rfl) (by decide) (by decide) (by rfl) (by rfl)) Yc (by rfl)) (by omega) (by rfl) (by rfl) (by decide) (by rfl) (by rfl)) (by rfl) (by first | exact .inl rfl | exact .inr rfl | assumption)) (@Yd _ _ _ _ _ (@Yv _ _ (10) _ _ _ _ XS.nd rfl (.inl rfl) (@Q8 _ _ _ _ _ _ _ _ _ _ _ _ _ Fv hr KR (@Ya _ _ _ _ _ (pv 4) (@Ya _ _ _ _ _ (@YR _ _ _ _ _ (@Ya _ _ _ _ _ Yx (@Ya _ _ _ _ _ Yx Yc (by rfl)) (by rfl))) (@Ya _ _ _ _ _ (@Yu _ _ _ _ _ _ _ Yw (pv 8) Yh (fun _ _=>rfl)) (@Ya _ _ _ _ _ (@Yu _ _ _ _ _ _ _ Yw (pv 8) Yh (fun _ _=>rfl)) (@Ya _ _ _ _ _ (@Yu _ _ _ _ _ _ _ Yw (pv 9) Yh (fun _ _=>rfl)) (@Ya _ _ _ _ _ (@Yu _ _ _ _ _ _ _ Yw (pv 9) Yh (fun _ _=>rfl)) (@Ya _ _ _ _ _ (pv 7) Yc (by rfl)) (by rfl)) (by rfl)) (by rfl)) (by rfl)) (YY _ _ _ _ _)) (by rfl)) (by omega) (by rfl) (by rfl) (by decide) (by rfl) (by rfl)) (by rfl) (by first | exact .inl rfl | exact .inr rfl | assumption)) (@Yf _ _ _ (@Yl _ _ _ _ (@XA _ _ _ _ _ _ _ (@YA _ _ _ _ _ _ _ _ _ _ Z3 YL (@Ya _ _ _ _ _ (pv 10) (@Ya _ _ _ _ _ (@Xq _ _ _ _ ("list") aP (by decide +kernel) (by rfl) (by rfl) (by decide) (by decide)) Yc (by rfl)) (by rfl)) (by decide +kernel) (by rfl) (by rfl) (by decide) (by decide) (by rfl) (by rfl)) (@XA _ _ _ _ _ _ _ (@Xn _ _ _ _ _ _ _ _ (Q6 hr.units) (@Xr _ _ _ _ _ _ _ _ _ _ WN (pv 10) Xx (@Xy _ _ _ Yh)) (@Y0 _ _ _ _ (@Ya _ _ _ _ _ (pv 7) Yc (by rfl))) (Yq _)) (@XQ _ _ _ _ _ (@Xn _ _ _ _ _ _ _ _ (Q6 hr.units) (pv 4) (@Y0 _ _ _ _ (@Ya _ _ _ _ _ (@YR _ _ _ _ _ (@Ya _ _ _ _ _ Yx (@Ya _ _ _ _ _ (pv 3) Yc (by rfl)) (by rfl))) Yc (YY _ _ _ _ _))) (Yq _))))))))))))))))))),?_⟩;have hTJ:H au=some (.aU #[]):=ht _ (.head _);have hTS:H ao=some (.aU #[]):=ht _ (.tail _ (.head _));have hTT:H aF=some (.aU #[]):=ht _ (.tail _ (.tail _ (.head _)));have FT:au≠ao:=fun z=>by simp [z] at hnd
 have xX:au≠aF:=fun z=>by simp [z] at hnd
 have xY:ao≠aF:=fun z=>by simp [z] at hnd
 refine Ym fun R rr=>?_
 walk_at "rd";refine ⟨a,ns,0,6,rfl,hS,hl,by omega,by omega,by omega,fun c H1 hc s1=>rr _ _ (Ym fun R rr=>?_)⟩;walk_at "rd";refine ⟨a,ns,1,6,rfl,s1.seq hS,hl,by omega,by omega,by omega,fun z H2 hz s2=>⟨vZ,_,rfl,by decide +kernel,vZ,.inr (.inl (by decide)),rr _ _ (Ym fun R rr=>?_)⟩⟩;have hlo:=Ji (z:Int);generalize (z:Int)%10^df 60 - 5*10^df 59=lo at hlo;walk_at "rd";refine ⟨few (by decide),fun p0 g0=>?_⟩;have w0:=Yg.aj g0 (.tup []);have e0:upd H2 p0 (.tup []) p0=some (.tup []):=Yb;generalize upd H2 p0 (.tup [])=K0 at w0 e0 ⊢;refine ⟨few (by decide),fun p1 g1=>?_⟩;have w1:=Yg.aj g1 (.tup [.str "row",.ref p0]);have e1:upd K0 p1 (.tup [.str "row",.ref p0]) p1=some (.tup [.str "row",.ref p0]):=Yb;generalize upd K0 p1 (.tup [.str "row",.ref p0])=K1 at w1 e1 ⊢;refine ⟨few (by decide),fun p2 g2=>?_⟩;have w2:=Yg.aj g2 (.tup [.str "ask",.ref p1]);have e2:upd K1 p2 (.tup [.str "ask",.ref p1]) p2=some (.tup [.str "ask",.ref p1]):=Yb;generalize upd K1 p2 (.tup [.str "ask",.ref p1])=K2 at w2 e2 ⊢;refine ⟨few (by decide),fun p3 g3=>?_⟩;have w3:=Yg.aj g3 (.tup [.str "whole",.int lo,.int (lo+7)]);have e3:upd K2 p3 (.tup [.str "whole",.int lo,.int (lo+7)]) p3=some (.tup [.str "whole",.int lo,.int (lo+7)]):=Yb;generalize upd K2 p3 (.tup [.str "whole",.int lo,.int (lo+7)])=K3 at w3 e3 ⊢;refine ⟨few (by decide),fun p4 g4=>?_⟩;have w4:=Yg.aj g4 (.tup [.str "put",.ref p3]);have e4:upd K3 p4 (.tup [.str "put",.ref p3]) p4=some (.tup [.str "put",.ref p3]):=Yb;generalize upd K3 p4 (.tup [.str "put",.ref p3])=K4 at w4 e4 ⊢;refine ⟨few (by decide),fun p5 g5=>?_⟩;have w5:=Yg.aj g5 (.tup [.ref p2,.ref p4]);have e5:upd K4 p5 (.tup [.ref p2,.ref p4]) p5=some (.tup [.ref p2,.ref p4]):=Yb;generalize upd K4 p5 (.tup [.ref p2,.ref p4])=K5 at w5 e5 ⊢;refine ⟨few (by decide),fun p6 g6=>?_⟩;have w6:=Yg.aj g6 (.tup [.str "pick",.ref p5]);have e6:upd K5 p6 (.tup [.str "pick",.ref p5]) p6=some (.tup [.str "pick",.ref p5]):=Yb;generalize upd K5 p6 (.tup [.str "pick",.ref p5])=K6 at w6 e6 ⊢;refine rr _ _ (Ym fun R rr=>?_);have v5:=w6;have v4:=w5.trans v5;have v3:=w4.trans v4;have v2:=w3.trans v3;have v1:=w2.trans v2;have v0:=w1.trans v1;have hP:Y7 K6 lo p6 .pk:=⟨p5,p2,p4,p1,p3,p0,e6,v5 _ _ e5,v2 _ _ e2,v4 _ _ e4,v1 _ _ e1,v0 _ _ e0,v3 _ _ e3⟩;have s3:=(s1.trans s2).trans (w0.trans v0);clear v0 v1 v2 v3 v4 v5 w0 w1 w2 w3 w4 w5 w6 e0 e1 e2 e3 e4 e5 e6 g0 g1 g2 g3 g4 g5 g6 s1 s2;walk_at "rd";refine ⟨few (by decide),fun t0 i0=>⟨few (by decide),fun B i1=>rr _ _ (Ym fun R rr=>?_)⟩⟩;have y0:=Yg.aj i0 (.tup [.str "deed",.ref p6]);have y1:=Yg.aj i1 (.lst [.ref t0]);have tE:upd (upd K6 t0 (.tup [.str "deed",.ref p6])) B (.lst [.ref t0]) B=some (.lst [.ref t0]):=Yb;have hB2:upd (upd K6 t0 (.tup [.str "deed",.ref p6])) B (.lst [.ref t0]) t0=some (.tup [.str "deed",.ref p6]):=y1 _ _ Yb;have s4:=s3.trans (y0.trans y1);have FW:=hP.kt (Yn (y0.trans y1));generalize upd (upd K6 t0 (.tup [.str "deed",.ref p6])) B (.lst [.ref t0])=H4 at tE hB2 s4 FW;clear s3 hP y0 y1 i0 i1;obtain ⟨m,hm,em⟩:∃ m:Nat,m<=3/\(c:Int)%4=(m:Int):=⟨((c:Int)%4).toNat,by omega,by omega⟩;walk_at "rd";have bk4:cX H4 lo B:=⟨t0,p6,tE,hB2,FW⟩;refine Vv (n:=m) (fun D i zs H'=>Yg H4 H'/\H' D=some (.lst zs)/\∃ xs,YN H' lo zs xs/\(∀ x∈xs,dB x)/\xs.length=i) (fun R r=>by walk_at "rd";rw [em];exact ⟨by decide,r⟩) (by omega) ?_ ?_ ?_ ?_
 ·intro D hD
  exact ⟨.aj hD _,Yb,[],⟨rfl,fun i u x e=>by cases e⟩,(fun x h=>by cases h),rfl⟩
 ·rintro D i zs H' ⟨sm,hd,xs,al,ok,e⟩
  exact ⟨by rw [al.1];exact e,hd⟩
 ·rintro D i zs H' hD hi ⟨sm,hd,xs,al,ok,e⟩ R r
  walk_at "rd";refine ⟨a,ns,2+i,6,by rw [ij];rfl,(s4.trans sm).seq hS,hl,by omega,by omega,by omega,fun y H5 hy s5=>⟨y,lo,rfl,fun v x H6 s6 fs z7 z8=>r v H6 (s6 _ _ (s5 _ _ hd)) ⟨.cO hD (sm.trans (s5.trans s6)) _,Yb,xs++[x],?_,fun z hz=>?_,by rw [Κ,e];rfl⟩⟩⟩
  ·have t:=WH (ys:=zs++[v]) (s6 _ _ (s5 _ _ hd))
   exact (al.tp ((YX (Yn (s5.trans s6))).trans t)).xV (z7.tp t)
  ·rcases τ.mp hz with hz | hz
   ·exact ok z hz
   ·rw [ε.mp hz];exact z8
 rintro D zs H5 hD ⟨s5,hd,xs,al,ok,e⟩;refine rr _ _ (Ym fun R rr=>?_);have okx:iw xs:=⟨by omega,ok⟩;have sA:=s4.trans s5;have Ra:=bk4.kt (Yn s5);have tt5:XZ H5 aF := .inl (sA _ _ hTT);have tj5:Xi H5 au := .inl (sA _ _ hTJ);have ts5:Xs H5 ao := .inl (sA _ _ hTS);walk_at "rd";refine ⟨Wa (by decide) (by decide),by decide,rr _ _ (Ym fun R rr=>?_)⟩;generalize (c:Int) / 4%5 - 1=bad;walk_at "rd";refine ⟨a,ns,5,6,rfl,sA.seq hS,hl,by omega,by omega,by omega,fun y H6 hy s6=>⟨D,zs,xs,y,lo,rfl,s6 _ _ hd,al.tp (YX (Yn s6)),okx,by omega,hlo,fun v r H7 s7 hv ct=>?_⟩⟩;have tY:=s6.trans s7;refine ⟨B,v,bad,lo,r,rfl,Ra.kt (Yn tY),hv,ct,tt5.keep tY,tj5.keep tY,ts5.keep tY,FT,xX,xY,fun H8 k8 tt8 tj8 ts8=>⟨_,rfl,YC (by decide) (rr _ _ (Ym fun R rr=>?_))⟩⟩;have xZ:=(Yn tY).trans k8;have FZ:=xZ.lst hd;have Rb:=al.tp (YX xZ);have Rc:=Ra.kt xZ;have zl:=al.1;walk_at "rd";refine Vp FZ Rb (by omega) fun D2 cg H9 s9 hD2 ju=>?_
 obtain ⟨⟨n2,hv2⟩,ct2⟩:=Qi hD2 ju okx;refine ⟨_,.inl (aA.of (s9 _ _ FZ)),B,.ref D2,_,lo,_,rfl,Rc.kt (Yn s9),hv2,ct2,tt8.keep s9,tj8.keep s9,ts8.keep s9,FT,xX,xY,fun pJ k10 SX S5 S6=>⟨_,rfl,YC (by decide) (rr _ _ (Ym fun R rr=>?_))⟩⟩;have yc:=(Yn s9).trans k10;have Rf:=yc.lst FZ;have alA:=Rb.tp (YX yc);have bkA:=Rc.kt yc;have k4A:=((Yn s5).trans xZ).trans yc;walk_at "rd";refine ⟨few (by decide),fun q0 h0=>⟨few (by decide),fun q1 h1=>⟨few (by decide),fun q2 h2=>?_⟩⟩⟩;have x0:=Yg.aj h0 (.tup []);have x1:=Yg.aj h1 (.tup [.str "ask",.ref q0]);have x2:=Yg.aj h2 (.lst [.ref q1]);refine ⟨_,((x0.trans x1).trans x2) _ _ Rf,_,Yb,few (by simp;omega),fun M gM=>rr _ _ (Ym fun R rr=>?_)⟩;have x3:=Yg.aj gM (.lst (zs++[.ref q1]));have sM:=((x0.trans x1).trans x2).trans x3;have dq:Y6 (upd (upd (upd (upd pJ q0 (.tup [])) q1 (.tup [.str "ask",.ref q0])) q2 (.lst [.ref q1])) M (.lst (zs++[.ref q1]))) lo (.ref q1) .ask:=⟨q1,q0,rfl,(x2.trans x3) _ _ Yb,((x1.trans x2).trans x3) _ _ Yb⟩;have yd:=(alA.tp (YX (Yn sM))).xV dq;have hM:(upd (upd (upd (upd pJ q0 (.tup [])) q1 (.tup [.str "ask",.ref q0])) q2 (.lst [.ref q1])) M (.lst (zs++[.ref q1]))) M=some (.lst (zs++[.ref q1])):=Yb;generalize upd (upd (upd (upd pJ q0 (.tup [])) q1 (.tup [.str "ask",.ref q0])) q2 (.lst [.ref q1])) M (.lst (zs++[.ref q1]))=Kf at sM dq yd hM;clear x0 x1 x2 x3 h0 h1 h2 gM dq;have Ga:iw (xs++[.ask]):=⟨by rw [Κ,ω];omega,fun z hz=>by
  rcases τ.mp hz with hz | hz
  ·exact ok z hz
  ·rw [ε.mp hz];trivial⟩
 obtain ⟨⟨nM,hvM⟩,_⟩:=Qi hM yd Ga;have Gb:=SX.keep sM;have S7:=S5.keep sM;have S8:=S6.keep sM;obtain ⟨ps1,hp1⟩:=Gb.aU;walk_at "rd";refine ⟨-1,rfl,Gb,fun t1 b1 f1 Rg hb1 hf1 ht1 Gd k12=>rr _ _ (Ym fun R rr=>?_)⟩;obtain ⟨ps2,hp2⟩:=Gd.aU;have Ge:Kt Kf Rg:=WI k12 hp1;walk_at "rd";refine ⟨_,.inl (aA.of (Ge.lst (sM _ _ Rf))),_,rfl,Gd,fun t2 b2 f2 Gf hb2 hf2 rJ ahX k13=>rr _ _ (Ym fun R rr=>?_)⟩;have uW:Kt Rg Gf:=WI k13 hp2;have ktB:=Ge.trans uW;have S9:=(S7.but k12 hp1 xX).but k13 hp2 xX;have Tc:=(S8.but k12 hp1 xY).but k13 hp2 xY;walk_at "rd";refine ⟨few (by decide),fun u gu=>?_⟩;have su:=Yg.aj gu (.tup [.str "use",.str "deed"]);have eU:upd Gf u (.tup [.str "use",.str "deed"]) u=some (.tup [.str "use",.str "deed"]):=Yb;generalize upd Gf u (.tup [.str "use",.str "deed"])=H14 at su eU;have ktC:=ktB.trans (Yn su);have n12:=Kt.nl (uW.trans (Yn su));have n13:=WA su;have hto:=su _ _ (uW.tup ht1);have htp:=su _ _ rJ;have Gg:=S9.keep su;have Gh:=Tc.keep su;have br:brk (zs.length:Int) (xs++[.ask])=true:=decide_eq_true (by rw [Κ,ω];omega);refine ⟨_,aq.of hto,_,Yk (j:=0) rfl,_,aq.of hto,_,Yk (j:=1) rfl,_,aq.of htp,_,Yk (j:=0) rfl,_,aq.of htp,_,Yk (j:=1) rfl,?_⟩;refine ⟨B,u,b1,f1,b2,f2,.ref M,_,lo,some nM,xs++[.ask],rfl,(bkA.kt (Yn sM)).kt ktC,eU,⟨hb1.nl n12,hf1.nl n12,hb2.nl n13,hf2.nl n13⟩,hvM.kt ktC,fun _=>⟨M,_,rfl,ktC.lst hM,yd.tp (YX ktC),Ga⟩,Gg,Gh,FT,(fun z=>by cases z),(fun _ z=>by rw [br] at z;cases z),fun L y ys yg k15 hL _ _ hy _ _=>rr _ _ ?_⟩;have Td:Kt H14 yg:=k15.kt Gg.aU Gh.aU;walk_at "rd";refine ⟨_,rfl,_,.lst hL,true,rfl,Y3 rfl ⟨_,aA.of hL,fun q0 h0=>?_⟩⟩;rw [show WJ (y::ys) none (some 1)=[y] from Wq (y::ys) 1];have x0:=Yg.aj h0 (.lst [y]);refine ⟨few (by decide),fun q1 h1=>?_⟩;have x1:=Yg.aj h1 (.lst [.ref M]);have z0:upd (upd yg q0 (.lst [y])) q1 (.lst [.ref M]) q0=some (.lst [y]):=x1 _ _ Yb;have z1:upd (upd yg q0 (.lst [y])) q1 (.lst [.ref M]) q1=some (.lst [.ref M]):=Yb;have x:=x0.trans x1;generalize upd (upd yg q0 (.lst [y])) q1 (.lst [.ref M])=H16 at x z0 z1 ⊢;have Gi:=(ktC.trans Td).trans (Yn x);obtain ⟨Dy,uy,rfl,zL,aly⟩:=Ua (hy.same x);obtain ⟨d,d1,d2,d3,d4⟩:=(P0 z0 z1 (Jj zL aly (Gi.lst hM) (yd.tp (YX Gi)) Ga.1 0 0)).den (K:=g.K) rfl;refine ⟨d,d1,d,d2,by omega,Y3 d4 ⟨few (by decide),fun q2 h2=>⟨few (by decide),fun q3 h3=>?_⟩⟩⟩;have x2:=Yg.aj h2 (.tup [.str "deed",.ref p6]);have x3:=Yg.aj h3 (.lst [.ref q2]);have ktE:=((k4A.trans (Yn sM)).trans Gi).trans (Yn (x2.trans x3));obtain ⟨e,e1,e2,e3,e4⟩:=(P0 (ktE.lst tE) Yb (Vq (ktE.tup hB2) (x3 _ _ Yb) (.str _ _ _ (by decide +kernel)) (Jk (FW.kt ktE)))).den (K:=g.K) rfl;refine ⟨e,e1,e,e2,by omega,?_⟩;rw [e4];exact q _
theorem iy {α:Type} {us:List α} (h:us.length=1):∃ a0,us=[a0]:=by
 match us,h with
 | [a0],_=>exact ⟨_,rfl⟩
theorem cg {α:Type} {us:List α} (h:us.length=2):∃ a0 a1,us=[a0,a1]:=by
 match us,h with
 | [a0,a1],_=>exact ⟨_,_,rfl⟩
theorem eG {α:Type} {us:List α} (h:us.length=3):∃ a0 a1 a2,us=[a0,a1,a2]:=by
 match us,h with
 | [a0,a1,a2],_=>exact ⟨_,_,_,rfl⟩
theorem yh {α:Type} {us:List α} (h:us.length=4):∃ a0 a1 a2 a3,us=[a0,a1,a2,a3]:=by
 match us,h with
 | [a0,a1,a2,a3],_=>exact ⟨_,_,_,_,rfl⟩
theorem us5 {α:Type} {us:List α} (h:us.length=5):∃ a0 a1 a2 a3 a4,us=[a0,a1,a2,a3,a4]:=by
 match us,h with
 | [a0,a1,a2,a3,a4],_=>exact ⟨_,_,_,_,_,rfl⟩
theorem us7 {α:Type} {us:List α} (h:us.length=7):∃ a0 a1 a2 a3 a4 a5 a6,us=[a0,a1,a2,a3,a4,a5,a6]:=by
 match us,h with
 | [a0,a1,a2,a3,a4,a5,a6],_=>exact ⟨_,_,_,_,_,_,_,rfl⟩
structure Top (K:Ι) (mg:Str->Option Α) (Zj:Addr) (Z5:Addr) (Z4:Addr) (ZS:Addr) (ZK:Addr) (jw:Addr) (ZL:Addr) (ZT:Addr) (ZB:Addr) (ZU:Addr) (ZM:Addr) (ZV:Addr) (ZC:Addr) (Z7:Addr) (Z1:Addr) (Z2:Addr) (Z6:Addr) (Z0:Addr) (aW au:Addr) (aQ ao:Addr) (aY aF:Addr):Prop where
 Gj:∀ P w base,(Gx.mk P w K mg base).Raw "shape_of" "shape_of" Av ["book","name"]
 Gk:∀ P w base,(Gx.mk P w K mg base).Raw "is_whole_number" "is_whole_number" Aw ["thing"]
 Gm:∀ P w base,(Gx.mk P w K mg base).Raw "branch_place" "branch_place" Ax ["branches","mark"]
 Gn:∀ P w base,(Gx.mk P w K mg base).Raw "has_mark" "has_mark" Az ["branches","value"]
 Gp:∀ P w base,(Gx.mk P w K mg base).Raw "has_form" "has_form" Ba ["shape","value"]
 Gq:∀ P w base,(Gx.mk P w K mg base).Raw "things_within" "things_within" Bb ["book","shape","value"]
 Gs:∀ P w base,(Gx.mk P w K mg base).Raw "sum_of_sizes" "sum_of_sizes" Bc ["keys"]
 Gu:∀ P w base,(Gx.mk P w K mg base).Raw "list_key" "list_key" Bd ["shape","keys"]
 Gv:∀ P w base,(Gx.mk P w K mg base).Raw "key_made" "key_made" Bg ["shape","value","keys"]
 n8:∀ P w base,(Gx.mk P w K mg base).Raw "weighed" "weighed" Bh ["book","shape","value"]
 Gw:∀ P w base,(Gx.mk P w K mg base).Raw "key_or_refusal" "key_or_refusal" Bl ["book","shape","value"]
 oh:∀ P w base,(Gx.mk P w K mg base).Raw "fits" "fits" Bp ["book","shape","value"]
 Gy:∀ P w base,(Gx.mk P w K mg base).Raw "size_of" "size_of" Br ["book","shape","value"]
 Gz:∀ P w base,(Gx.mk P w K mg base).Raw "refuse_no_value" "refuse_no_value" Bq ["book","shape","value"]
 GC:∀ P w base,(Gx.mk P w K mg base).m6 "Maker" "__init__" "Maker.__init__" Dh ["self"]
 GD:∀ P w base,(Gx.mk P w K mg base).fC "WholeMaker" Z0 "WholeMaker.__init__" Cy ["self","low","high"]
 GF:∀ P w base,(Gx.mk P w K mg base).fC "RowTable" Z2 "RowTable.__init__" CK ["self","parts"]
 GJ:∀ P w base,(Gx.mk P w K mg base).fC "RowMaker" Z1 "RowMaker.__init__" CQ ["self","parts"]
 GK:∀ P w base,(Gx.mk P w K mg base).fC "Lister" Z7 "Lister.__init__" Cr ["self","book"]
 GP:∀ P w base,(Gx.mk P w K mg base).Raw "least_distance" "least_distance" Bs ["size"]
 GQ:∀ P w base,(Gx.mk P w K mg base).bw Z0 "reckoned" "WholeMaker.reckoned" CG ["self","size"]
 GR:∀ P w base,(Gx.mk P w K mg base).bw Z0 "value_at" "WholeMaker.value_at" CJ ["self","size","number"]
 GX:∀ P w base,(Gx.mk P w K mg base).bw Z0 "count_at" "Maker.count_at" Di ["self","size"]
 GZ:∀ P w base,(Gx.mk P w K mg base).bw Z2 "add_size" "RowTable.add_size" CP ["self","size"]
 G3:∀ P w base,(Gx.mk P w K mg base).bw Z2 "ways_at" "RowTable.ways_at" CN ["self","place","left"]
 G4:∀ P w base,(Gx.mk P w K mg base).bw Z1 "reckoned" "RowMaker.reckoned" CT ["self","size"]
 G5:∀ P w base,(Gx.mk P w K mg base).bw Z1 "count_at" "Maker.count_at" Dj ["self","size"]
 G6:∀ P w base,(Gx.mk P w K mg base).bw Z1 "value_at" "RowMaker.value_at" CW ["self","size","number"]
 G7:∀ P w base,(Gx.mk P w K mg base).Raw "least_below" "least_below" Bu ["maker","below"]
 G8:∀ P w base,(Gx.mk P w K mg base).Raw "parts_of" "parts_of" Ar ["shape"]
 G9:∀ P w base,(Gx.mk P w K mg base).bw Z7 "new_maker" "Lister.new_maker" Cv ["self","shape"]
 Hg:∀ P w base,(Gx.mk P w K mg base).bw Z7 "maker_of" "Lister.maker_of" Cu ["self","shape"]
 Hh:∀ P w base,(Gx.mk P w K mg base).Raw "whole_steps" "whole_steps" Bv ["low","value"]
 Hi:∀ P w base,(Gx.mk P w K mg base).Raw "without_each" "without_each" Bw ["things"]
 Hj:∀ P w base,(Gx.mk P w K mg base).Raw "with_each_step" "with_each_step" Bx ["things","inner"]
 Hl:∀ P w base,(Gx.mk P w K mg base).fC "Stepper" Z6 "Stepper.__init__" CZ ["self","book"]
 Ho:∀ P w base,(Gx.mk P w K mg base).bw Z6 "leasts_ahead" "Stepper.leasts_ahead" ZZ ["self","shape","value"]
 ZQ:∀ P w base,(Gx.mk P w K mg base).Raw "things_at_use" "things_at_use" BJ ["book","use","shape","value"]
 Hq:∀ P w base,(Gx.mk P w K mg base).bw Z6 "steps_by" "Stepper.steps_by" Df ["self","shape","value","inner"]
 Zs:∀ P w base,(Gx.mk P w K mg base).bw Z6 "steps_from" "Stepper.steps_from" Dc ["self","shape","value"]
 ou:∀ P w base,(Gx.mk P w K mg base).Raw "copied" "copied" Us ["thing"]
 Hr:∀ P w base,(Gx.mk P w K mg base).Raw "steps_of" "steps_of" BK ["book","shape","value"]
 oA:∀ P w base,(Gx.mk P w K mg base).Raw "cuts" "cuts" BR ["deeds"]
 Hs:∀ P w base,(Gx.mk P w K mg base).Raw "is_truth" "is_truth" Bk ["thing"]
 oE:∀ P w base,(Gx.mk P w K mg base).Raw "same" "same" Bj ["one","other"]
 kZ:∀ P w base,(Gx.mk P w K mg base).Raw "apart" "apart" Qe ["begin","done","model_begin","model_done","deeds"]
 Ht:∀ P w base,(Gx.mk P w K mg base).gn "_law_thing" "_law_thing" rO ["_law_bad"] aY
 lg:∀ P w base,(Gx.mk P w K mg base).Raw "holds" "holds" Qf ["judge","value"]
 Hu:∀ P w base,(Gx.mk P w K mg base).Raw "first_breach" "first_breach" BL ["judge","values"]
 Hv:∀ P w base,(Gx.mk P w K mg base).Raw "shrunk_by" "shrunk_by" BP ["judge","value","values_next"]
 Hw:∀ P w base,(Gx.mk P w K mg base).gn "deed_judge" "deed_judge" vO ["begin","done","model_begin","model_done"] aW
 Hy:∀ P w base,(Gx.mk P w K mg base).gn "shrunk_deeds" "shrunk_deeds" rM ["book","shape","begin","done","model_begin","model_done","deeds"] aQ
 HB:∀ P w base,(Gx.mk P w K mg base).Raw "_law_mix" "_law_mix" BX ["_law_script","_law_k","_law_step"]
 HD:∀ P w base,(Gx.mk P w K mg base).Raw "_law_whole" "_law_whole" BZ ["_law_found"]
 oF:∀ P w base,(Gx.mk P w K mg base).Raw "_law_copy" "_law_copy" Ca ["_law_value"]
 HF:∀ P w base,(Gx.mk P w K mg base).Raw "_law_deed" "_law_deed" Ce ["_law_cell","_law_low"]
 HJ:∀ P w base,(Gx.mk P w K mg base).Raw "_law_is_deed" "_law_is_deed" Cg ["_law_thing_here","_law_low"]
 HN:∀ P w base,(Gx.mk P w K mg base).Raw "_law_is_good" "_law_is_good" Ci ["_law_things","_law_low"]
 HS:∀ P w base,(Gx.mk P w K mg base).Raw "_law_alone" "_law_alone" Cd ["_law_e"]
 HW:∀ P w base,(Gx.mk P w K mg base).Raw "_law_refused" "_law_refused" Cm ["_law_book","_law_things","_law_bad"]
 HX:∀ P w base,(Gx.mk P w K mg base).Raw "_law_due" "_law_due" Cp ["_law_book","_law_things","_law_bad","_law_low"]
 HY:∀ P w base,(Gx.mk P w K mg base).Raw "_law_spoiled" "_law_spoiled" Cj ["_law_deeds","_law_cell","_law_low"]
 Zu:Cls K Z7
 Zy:Yo K Z7 "book"
 Zn:Yo K Z7 "makers"
 Zd:Cls K Z1
 Za:Yo K Z1 "counts"
 Zg:Yo K Z1 "parts"
 Zh:Yo K Z1 "table"
 Zm:Cls K Z2
 Zo:Yo K Z2 "parts"
 Zl:Yo K Z2 "ways"
 Zk:Cls K Z6
 Ze:Yo K Z6 "book"
 Zc:Yo K Z6 "lister"
 Z9:Cls K Z0
 Z8:Yo K Z0 "counts"
 Zi:Yo K Z0 "low"
 Zb:Yo K Z0 "span"
 lF:∀ P w base,(Gx.mk P w K mg base).mZ "OF_ONE_PART" ([.str "many",.str "rising",.str "unlike"])
 tM:mg "ValueError"=none
 dN:mg "bool"=none
 fJ:mg "dict"=none
 Zq:mg "enumerate"=none
 dI:mg "int"=none
 Z3:mg "isinstance"=none
 aH:mg "len"=none
 aP:mg "list"=none
 j4:mg "max"=none
 j5:mg "min"=none
 Zw:mg "range"=none
 eN:mg "str"=none
 jZ:mg "sum"=none
 Zf:mg "tuple"=none
 jY:mg "zip"=none
 bQ:mg "CountError"=some (.ref Zj)
 eF:mg "NoValue"=some (.ref Z5)
 cL:mg "NoBreach"=some (.ref Z4)
 gQ:mg "NoNote"=some (.ref ZS)
 fL:mg "Crowded"=some (.ref ZK)
 iQ:mg "Twice"=some (.ref jw)
 fM:mg "NoRange"=some (.ref ZL)
 gO:mg "NoName"=some (.ref ZT)
 eX:mg "NoGround"=some (.ref ZB)
 gK:mg "NoDraw"=some (.ref ZU)
 fO:mg "TooMany"=some (.ref ZM)
 gJ:mg "Astray"=some (.ref ZV)
 eY:mg "NoNumber"=some (.ref ZC)
 eO:W.excIn K Z4 WU "ValueError.__new__"=true
 aK:fD K Z4
 aL:fD K Z5
 iW:∀ P w base,(Gx.mk P w K mg base).jN "NoValue" Z5 "NoValue.__init__" Dk ["self","value"]
 iY:m7 K Z5 Zj
 bO:bS K (.ref Z5) "value"=some none
 fU:∀ P w base,mH (Gx.mk P w K mg base) "CountError" Zj
 cH:γ K (.ref Z4) (.ref ZV)=some false
 bA:γ K (.ref Z4) (.ref Zj)=some true
 bU:γ K (.ref Z4) (.ref ZK)=some false
 bN:γ K (.ref Z4) (.ref Z4)=some true
 cG:γ K (.ref Z4) (.ref ZU)=some false
 bL:γ K (.ref Z4) (.ref ZB)=some false
 cF:γ K (.ref Z4) (.ref ZT)=some false
 cD:γ K (.ref Z4) (.ref ZS)=some false
 bM:γ K (.ref Z4) (.ref ZC)=some false
 bV:γ K (.ref Z4) (.ref ZL)=some false
 bZ:γ K (.ref Z4) (.ref Z5)=some false
 bW:γ K (.ref Z4) (.ref ZM)=some false
 cV:γ K (.ref Z4) (.ref jw)=some false
 bB:γ K (.ref Z4) (.type "ValueError")=some true
 cU:γ K (.ref Z5) (.ref ZV)=some false
 bH:γ K (.ref Z5) (.ref Zj)=some true
 cA:γ K (.ref Z5) (.ref ZK)=some false
 bY:γ K (.ref Z5) (.ref Z4)=some false
 cT:γ K (.ref Z5) (.ref ZU)=some false
 bR:γ K (.ref Z5) (.ref ZB)=some false
 cR:γ K (.ref Z5) (.ref ZT)=some false
 cQ:γ K (.ref Z5) (.ref ZS)=some false
 bT:γ K (.ref Z5) (.ref ZC)=some false
 cB:γ K (.ref Z5) (.ref ZL)=some false
 cI:γ K (.ref Z5) (.ref Z5)=some true
 cC:γ K (.ref Z5) (.ref ZM)=some false
 c7:γ K (.ref Z5) (.ref jw)=some false
 bI:γ K (.ref Z5) (.type "ValueError")=some true
 bJ:ka K (.ref Z5) (.ref Zj)=some true
 bC:ka K (.ref Z4) (.ref Zj)=some true
theorem YeC {K:Ι} {mg:Str->Option Α} {Zj Z5 Z4 ZS ZK jw ZL ZT ZB ZU ZM ZV ZC Z7 Z1 Z2 Z6 Z0:Addr} {aW au:Addr} {aQ ao:Addr} {aY aF:Addr}  (t:Top K mg Zj Z5 Z4 ZS ZK jw ZL ZT ZB ZU ZM ZV ZC Z7 Z1 Z2 Z6 Z0 aW au aQ ao aY aF) (P:Ρ) (w:Ω) (base:Heap) (hB:Bm mg base) (lZ:gt base aW au) (kE:gt base aQ ao) (oG:gt base aY aF) (hnd:([au,ao,aF]:List Addr).Nodup) :
  VR (Gx.mk P w K mg base) 64 ["_law_script","_law_cell","_law_low","_law_part","_law_book","_law_deeds","_law_bad","_law_more","_law_one","_law_other","_law_found"] "law" QS (V6 K [("deed_judge",aW,au),("shrunk_deeds",aQ,ao),("_law_thing",aY,aF)]):=by
 have Z3U:=Z3h (g:=Gx.mk P w K mg base) (t.iW P w base) (t.fU P w base) t.iY t.bO;have qI:=YaM (t.Gj P w base);have Rh:=Z3I (t.Gk P w base) t.dN t.dI t.Z3;have yj:=Z4q (t.Gm P w base) t.Zq;have qJ:=YaN (k:=1) (t.Gn P w base) (yj.mono (by decide)) t.Z3 t.aH t.eN t.Zf;have yp:=YaO (k:=2) (t.Gp P w base) (Rh.mono (by decide)) (qJ.mono (by decide)) t.Z3 t.aH t.aP t.Zf (t.lF P w base);have Zp:=Z4k (k:=1) (t.Gq P w base) (qI.mono (by decide)) (yj.mono (by decide)) t.aP t.jY (t.lF P w base);have Ri:=Z4r (t.Gs P w base) t.jZ;have qK:=YaP (k:=1) (t.Gu P w base) (Ri.mono (by decide)) t.aH t.Zf;have yq:=YaQ (k:=2) (t.Gv P w base) (yj.mono (by decide)) (Ri.mono (by decide)) (qK.mono (by decide)) t.Zf;have oU:=wz (m:=0) (k:=3) (t.n8 P w base) (yp.mono (by decide)) (Zp.mono (by decide)) (yq.mono (by decide)) ((t.n8 P w base).none (fun _ _ _ _ h=>Ycb h));have oV:=wz (m:=1) (k:=4) (t.n8 P w base) (yp.mono (by decide)) (Zp.mono (by decide)) (yq.mono (by decide)) (oU.mono (by decide));have oW:=wz (m:=2) (k:=5) (t.n8 P w base) (yp.mono (by decide)) (Zp.mono (by decide)) (yq.mono (by decide)) (oV.mono (by decide));have lM:=wz (m:=3) (k:=6) (t.n8 P w base) (yp.mono (by decide)) (Zp.mono (by decide)) (yq.mono (by decide)) (oW.mono (by decide));have Z4m:=Z41 (k:=7) (t.Gw P w base) (lM.mono (by decide));have Ia:=YfG (k:=7) (t.oh P w base) (lM.mono (by decide));have tZ:=Ycc (k:=8) (t.Gy P w base) (Z4m.mono (by decide));have Rj:=Z3J (k:=8) (Z5:=Z5) (t.Gz P w base) (Ia.mono (by decide)) Z3U (by decide);have Rk:=Z42 (Z1:=Z1) (Z2:=Z2) (Z0:=Z0) (t.GC P w base) t.Zd t.Za t.Zg t.Zh t.Z9 t.Z8 t.Zi t.Zb;have Z2C:=Z2h (k:=1) (Z1:=Z1) (Z2:=Z2) (Z0:=Z0) (t.GD P w base) (Rk.mono (by decide)) t.Z9 t.Z8 t.Zi t.Zb;have Z3u:=Z2V (Z1:=Z1) (Z2:=Z2) (Z0:=Z0) (t.GF P w base) t.aH t.Zw t.Zm t.Zo t.Zl;have Z3v:=Z2W (k:=2) (Z1:=Z1) (Z2:=Z2) (Z0:=Z0) (t.GJ P w base) Z3u (by decide) (Rk.mono (by decide)) t.Zd t.Za t.Zg t.Zh;have Z48:=Z3L (Z7:=Z7) (t.GK P w base) t.Zu t.Zy t.Zn;have Rn:=Z43 (t.GP P w base);have Z2D:=Z2i (k:=1) (Z1:=Z1) (Z2:=Z2) (Z0:=Z0) (t.GQ P w base) (Rn.mono (by decide)) t.j4 t.j5 t.Z9 t.Z8 t.Zi t.Zb;have Z2E:=Z2j (k:=1) (Z1:=Z1) (Z2:=Z2) (Z0:=Z0) (t.GR P w base) (Rn.mono (by decide)) t.Z9 t.Z8 t.Zi t.Zb;have Z2F:=Z2k (k:=2) (Z1:=Z1) (Z2:=Z2) (Z0:=Z0) (t.GX P w base) (Z2D.mono (by decide)) t.aH t.Z9 t.Z8 t.Zi t.Zb;have Z3w:=Z2X (Z1:=Z1) (Z2:=Z2) (Z0:=Z0) (t.GZ P w base) t.aH t.Zw t.Zm t.Zo t.Zl;have Z3V:=Z3k (k:=1) (Z1:=Z1) (Z2:=Z2) (Z0:=Z0) (t.G3 P w base) (Z3w.mono (by decide)) t.aH t.Zm t.Zo t.Zl;have Z3x:=Z2Y (k:=2) (Z1:=Z1) (Z2:=Z2) (Z0:=Z0) (t.G4 P w base) (Z3V.mono (by decide)) t.Zd t.Za t.Zg t.Zh t.Zm t.Zo t.Zl;have Z3y:=Z2Z (k:=3) (Z1:=Z1) (Z2:=Z2) (Z0:=Z0) (t.G5 P w base) (Z3x.mono (by decide)) t.aH t.Zd t.Za t.Zg t.Zh;have Z3z:=Z30 (Z1:=Z1) (Z2:=Z2) (Z0:=Z0) (t.G6 P w base) t.Zq t.Zf t.Zd t.Za t.Zg t.Zh;have mj:=Z4D (k:=4) (Z1:=Z1) (Z2:=Z2) (Z0:=Z0) (t.G7 P w base) (Z2E.mono (by decide)) (Z3z.mono (by decide)) (Z2F.mono (by decide)) (Z3y.mono (by decide)) t.Zw t.Zd t.Za t.Zg t.Zh t.Z9 t.Z8 t.Zi t.Zb;have qL:=YaR (t.G8 P w base) t.aP;have Z3W:=Z3p (k:=4) (Z7:=Z7) (Z1:=Z1) (Z2:=Z2) (Z0:=Z0) (t.G9 P w base) (qL.mono (by decide)) Z2C (by decide) Z3v (by decide);have Z49:=Z3N (k:=5) (Z7:=Z7) (Z1:=Z1) (Z2:=Z2) (Z0:=Z0) (t.Hg P w base) (Z3W.mono (by decide)) t.Zu t.Zy t.Zn;have mq:=Z4E (t.Hh P w base);have Z4K:=Z4v (t.Hi P w base) t.aH t.Zw;have Z4n:=Z44 (t.Hj P w base) t.Zq;have Z3X:=Z3r (k:=2) (Z7:=Z7) (Z1:=Z1) (Z2:=Z2) (Z6:=Z6) (Z0:=Z0) (t.Hl P w base) Z48 (by decide) t.Zk t.Ze t.Zc;have Z2r:=Z23 (k:=9) (Z7:=Z7) (Z1:=Z1) (Z2:=Z2) (Z6:=Z6) (Z0:=Z0) (t.Ho P w base) (yj.mono (by decide)) (tZ.mono (by decide)) (mj.mono (by decide)) (Z49.mono (by decide)) t.Zu t.Zy t.Zn t.Zk t.Ze t.Zc;have Z4a:=En (m:=0) (k:=2) (t.ZQ P w base) (Zp.mono (by decide)) ((t.ZQ P w base).none (fun _ _ _ _ h=>Ygp h));have Z4b:=En (m:=1) (k:=3) (t.ZQ P w base) (Zp.mono (by decide)) (Z4a.mono (by decide));have Z4A:=En (m:=2) (k:=4) (t.ZQ P w base) (Zp.mono (by decide)) (Z4b.mono (by decide));have ZY:=Z3s (k:=10) (Z7:=Z7) (Z1:=Z1) (Z2:=Z2) (Z6:=Z6) (Z0:=Z0) (t.Hq P w base) (mq.mono (by decide)) (Z4K.mono (by decide)) (Z4n.mono (by decide)) (Z4A.mono (by decide)) (Z2r.mono (by decide)) t.aP t.Zf t.Zk t.Ze t.Zc;have Z2s:=ZP (m:=0) (k:=11) (Z7:=Z7) (Z1:=Z1) (Z2:=Z2) (Z6:=Z6) (Z0:=Z0) (t.Zs P w base) (Zp.mono (by decide)) ((t.Zs P w base).none (fun _ _ _ _ h=>Jc h)) (ZY.mono (by decide)) t.Zk t.Ze t.Zc;have Z2t:=ZP (m:=1) (k:=12) (Z7:=Z7) (Z1:=Z1) (Z2:=Z2) (Z6:=Z6) (Z0:=Z0) (t.Zs P w base) (Zp.mono (by decide)) (Z2s.mono (by decide)) (ZY.mono (by decide)) t.Zk t.Ze t.Zc;have Z2u:=ZP (m:=2) (k:=13) (Z7:=Z7) (Z1:=Z1) (Z2:=Z2) (Z6:=Z6) (Z0:=Z0) (t.Zs P w base) (Zp.mono (by decide)) (Z2t.mono (by decide)) (ZY.mono (by decide)) t.Zk t.Ze t.Zc;have Z3b:=ZP (m:=3) (k:=14) (Z7:=Z7) (Z1:=Z1) (Z2:=Z2) (Z6:=Z6) (Z0:=Z0) (t.Zs P w base) (Zp.mono (by decide)) (Z2u.mono (by decide)) (ZY.mono (by decide)) t.Zk t.Ze t.Zc;have qM:=xJ (m:=0) (k:=0) (t.ou P w base) ((t.ou P w base).none (fun _ _ _ _ h=>Ydq h)) t.fJ t.Z3 t.aP t.Zf;have qN:=xJ (m:=1) (k:=1) (t.ou P w base) (qM.mono (by decide)) t.fJ t.Z3 t.aP t.Zf;have qO:=xJ (m:=2) (k:=2) (t.ou P w base) (qN.mono (by decide)) t.fJ t.Z3 t.aP t.Zf;have uc:=xJ (m:=3) (k:=3) (t.ou P w base) (qO.mono (by decide)) t.fJ t.Z3 t.aP t.Zf;have qP:=YaS (k:=15) (Z5:=Z5) (Z7:=Z7) (Z1:=Z1) (Z2:=Z2) (Z6:=Z6) (Z0:=Z0) (t.Hr P w base) (uc.mono (by decide)) (Rj.mono (by decide)) Z3X (by decide) (Z3b.mono (by decide)) t.Zk t.Ze t.Zc;have Ib:=YfH (k:=4) (t.oA P w base) (uc.mono (by decide)) t.aH t.Zw;have qQ:=YaT (t.Hs P w base) t.dN t.Z3;have Ie:=YfI (k:=1) (t.oE P w base) (Rh.mono (by decide)) (qQ.mono (by decide));have yE:=Yet (k:=10) (t.kZ P w base) (uc.mono (by decide)) (Ie.mono (by decide)) (by decide) t.Zq;have Ro:=Yat (aY:=aY) (aF:=aF) (t.Ht P w base) hB oG t.dI;have yF:=Yex (k:=30) (t.lg P w base) (uc.mono (by decide)) (by decide);have Z4L:=Z4x (k:=31) (t.Hu P w base) (yF.mono (by decide));have oX:=Yav (k:=60) (Z4:=Z4) (t.Hv P w base) (uc.mono (by decide)) (Z4L.mono (by decide)) (by decide) t.cL t.eO;have oH:=QK (k:=11) (aW:=aW) (au:=au) (t.Hw P w base) hB lZ (yE.mono (by decide));have Rp:=Z4y (k:=61) (Z5:=Z5) (Z4:=Z4) (au:=au) (aQ:=aQ) (ao:=ao) (t.Hy P w base) hB kE (oH.mono (by decide)) (Rj.mono (by decide)) (qP.mono (by decide)) (oX.mono (by decide)) (Ib.mono (by decide));have ud:=Ycl (t.HB P w base);have oY:=Yax (t.HD P w base) t.dN t.dI t.Z3;have oJ:=xU (m:=0) (k:=0) (t.oF P w base) ((t.oF P w base).none (fun _ _ _ _ h=>YeA h)) t.Z3 t.aP t.Zf;have oK:=xU (m:=1) (k:=1) (t.oF P w base) (oJ.mono (by decide)) t.Z3 t.aP t.Zf;have oM:=xU (m:=2) (k:=2) (t.oF P w base) (oK.mono (by decide)) t.Z3 t.aP t.Zf;have Ig:=xU (m:=3) (k:=3) (t.oF P w base) (oM.mono (by decide)) t.Z3 t.aP t.Zf;have qR:=YaU (t.HF P w base);have mz:=Z4G (k:=1) (t.HJ P w base) (oY.mono (by decide)) t.Z3 t.aH t.eN t.Zf;have mC:=Z4H (k:=2) (t.HN P w base) (mz.mono (by decide)) t.Z3 t.aP;have oZ:=Yay (Zj:=Zj) (Z5:=Z5) (Z4:=Z4) (ZS:=ZS) (ZK:=ZK) (jw:=jw) (ZL:=ZL) (ZT:=ZT) (ZB:=ZB) (ZU:=ZU) (ZM:=ZM) (ZV:=ZV) (ZC:=ZC) (t.HS P w base) t.tM t.Z3 t.gJ t.bQ t.fL t.gK t.eX t.gO t.gQ t.eY t.fM t.fO t.iQ t.aK t.aL t.bH t.bI t.cQ t.cA t.c7 t.cB t.cR t.bR t.cT t.cC t.cU t.bT t.bA t.bB t.cD t.bU t.cV t.bV t.cF t.bL t.cG t.bW t.cH t.bM;have mD:=Z4I (k:=62) (Zj:=Zj) (Z5:=Z5) (Z4:=Z4) (au:=au) (ao:=ao) (aF:=aF) (t.HW P w base) (Rp.mono (by decide)) (Ro.mono (by decide)) t.bQ t.bJ t.bC;have uf:=Ycm (k:=63) (Z5:=Z5) (Z4:=Z4) (au:=au) (ao:=ao) (aF:=aF) (t.HX P w base) (Ig.mono (by decide)) (oZ.mono (by decide)) (mC.mono (by decide)) (mD.mono (by decide)) t.bO t.Z3 t.aH t.cL t.eF t.aK t.aL t.cI t.bY t.bN t.bZ;have mF:=Z4J (k:=4) (t.HY P w base) (Ig.mono (by decide)) t.aH t.eN;exact YeB (g:=Gx.mk P w K mg base) (k:=64) (Rp.mono (by decide)) (ud.mono (by decide)) (Ig.mono (by decide)) (qR.mono (by decide)) (mF.mono (by decide)) (Ro.mono (by decide)) (uf.mono (by decide)) t.Z3 t.aH t.aP t.Zw hnd
end KW
namespace PySem.W.Fast
theorem tw6890960361565380918:True:=⟨⟩
theorem tw16374408594445138377:True:=⟨⟩
theorem tw4653741306656046209:True:=⟨⟩
theorem tw1382503077884393789:True:=⟨⟩
theorem tw18317311310996065029:True:=⟨⟩
theorem tw13795224841661442950:True:=⟨⟩
theorem tw7263057331869838929:True:=⟨⟩
theorem tw5302790143229262570:True:=⟨⟩
theorem tw9215555600620549376:True:=⟨⟩
theorem tw16791159321749343894:True:=⟨⟩
theorem tw15541626000139252005:True:=⟨⟩
theorem tw10930275409916611343:True:=⟨⟩
theorem tw17527985531157350012:True:=⟨⟩
theorem tw8525752116438781755:True:=⟨⟩
theorem tw6441924244041619310:True:=⟨⟩
theorem tw11075479146267948768:True:=⟨⟩
theorem tw11101122602141900615:True:=⟨⟩
theorem tw12412384314860147769:True:=⟨⟩
theorem tw115899813649232361:True:=⟨⟩
theorem tw12678562245891133934:True:=⟨⟩
theorem tw12993641894887064853:True:=⟨⟩
theorem tw5644592485313702624:True:=⟨⟩
theorem tw7070247738882362866:True:=⟨⟩
theorem tw18069450058120414757:True:=⟨⟩
theorem tw16066651482666756517:True:=⟨⟩
theorem tw4831818667902734510:True:=⟨⟩
theorem tw14576872843026174968:True:=⟨⟩
theorem tw5462017783085056456:True:=⟨⟩
theorem tw14495337553896305621:True:=⟨⟩
theorem tw10119536755059982878:True:=⟨⟩
theorem tw11483041815687416277:True:=⟨⟩
theorem tw10508462537373019534:True:=⟨⟩
theorem tw12180890425339571117:True:=⟨⟩
theorem tw930838955450364980:True:=⟨⟩
theorem tw5285994786105012436:True:=⟨⟩
theorem tw4239387395503323765:True:=⟨⟩
theorem tw7192772943777068293:True:=⟨⟩
theorem tw8310012967506212924:True:=⟨⟩
theorem tw1009138542533249424:True:=⟨⟩
theorem tw16098636961787056487:True:=⟨⟩
theorem tw8062878754779109273:True:=⟨⟩
theorem tw8976277041684620346:True:=⟨⟩
theorem tw15347973746845802137:True:=⟨⟩
theorem tw2918815471957204856:True:=⟨⟩
theorem tw12182654140647699913:True:=⟨⟩
theorem tw4723528412780911998:True:=⟨⟩
theorem tw3718002378453006429:True:=⟨⟩
theorem tw12320377693005941874:True:=⟨⟩
theorem tw3278843732881649362:True:=⟨⟩
theorem tw16850982129269555051:True:=⟨⟩
theorem tw15498929662593196286:True:=⟨⟩
theorem tw4816873305732713929:True:=⟨⟩
theorem tw8332557241153837192:True:=⟨⟩
theorem tw15064235704364565395:True:=⟨⟩
theorem tw3837103282995373752:True:=⟨⟩
theorem tw2162955025783924949:True:=⟨⟩
theorem tw15721588654505779390:True:=⟨⟩
theorem tw13181862514404265538:True:=⟨⟩
theorem tw10384381561922278423:True:=⟨⟩
theorem tw17720727101232828569:True:=⟨⟩
theorem tw11053779761278303718:True:=⟨⟩
theorem tw2949798239263539842:True:=⟨⟩
theorem tw170566081108070608:True:=⟨⟩
theorem tw14886915202726036309:True:=⟨⟩
theorem tw14811928604613306236:True:=⟨⟩
theorem tw16111842769218847357:True:=⟨⟩
theorem tw1903960814490429106:True:=⟨⟩
theorem tw12589314495220708463:True:=⟨⟩
theorem tw17376120288434968036:True:=⟨⟩
theorem tw489649980719620153:True:=⟨⟩
theorem tw2461286862661353221:True:=⟨⟩
theorem tw7787189069618291725:True:=⟨⟩
theorem tw15433491165348769742:True:=⟨⟩
theorem tw16348610272503000022:True:=⟨⟩
theorem tw7219307688736998549:True:=⟨⟩
theorem tw4562567524868900599:True:=⟨⟩
theorem tw13325191833905275023:True:=⟨⟩
theorem tw9042202260975432202:True:=⟨⟩
theorem tw17513237602882895915:True:=⟨⟩
theorem tw9864910964232553268:True:=⟨⟩
theorem tw10296875003133404730:True:=⟨⟩
theorem tw7661026976053309437:True:=⟨⟩
theorem tw15775472283159512496:True:=⟨⟩
theorem tw10894565845985464916:True:=⟨⟩
theorem tw5155602901451333918:True:=⟨⟩
theorem tw7447205986886801546:True:=⟨⟩
theorem tw13532056547889063006:True:=⟨⟩
theorem tw14544355759232300890:True:=⟨⟩
theorem tw12912589920819370827:True:=⟨⟩
theorem tw4421257813461594632:True:=⟨⟩
theorem tw11747885600707399423:True:=⟨⟩
theorem tw695607144779170448:True:=⟨⟩
theorem tw9454418086846288702:True:=⟨⟩
theorem tw15694242800082622392:True:=⟨⟩
theorem tw13426592269006851061:True:=⟨⟩
theorem tw5104421618219997798:True:=⟨⟩
theorem tw6488508419295613856:True:=⟨⟩
theorem tw15651088449316119575:True:=⟨⟩
theorem tw12122549053951742402:True:=⟨⟩
theorem tw4765767526323470630:True:=⟨⟩
theorem tw13354249230903588128:True:=⟨⟩
theorem tw1966826740109356672:True:=⟨⟩
theorem tw10618606453942009016:True:=⟨⟩
theorem tw6460979434695495745:True:=⟨⟩
theorem tw2626216694546232357:True:=⟨⟩
theorem tw3660696174344862279:True:=⟨⟩
theorem tw14394142320637214886:True:=⟨⟩
theorem tw14570449901415694656:True:=⟨⟩
theorem tw12292033314142501535:True:=⟨⟩
theorem tw8907236744356847235:True:=⟨⟩
theorem tw1412283448413294766:True:=⟨⟩
theorem tw8865916869688431753:True:=⟨⟩
theorem tw14306006407366701178:True:=⟨⟩
theorem tw3458405212207015446:True:=⟨⟩
theorem tw3256266582371023094:True:=⟨⟩
theorem tw13871193279833746779:True:=⟨⟩
theorem tw8112397575059380689:True:=⟨⟩
theorem tw15068828617217625323:True:=⟨⟩
theorem tw14971130262460176749:True:=⟨⟩
theorem tw17943808528796563567:True:=⟨⟩
theorem tw388968720040483073:True:=⟨⟩
theorem tw11603654803720331843:True:=⟨⟩
theorem tw18286194152480457138:True:=⟨⟩
theorem tw15928562067516234309:True:=⟨⟩
theorem tw11398500451831570436:True:=⟨⟩
theorem tw4727404054948504868:True:=⟨⟩
theorem tw4360281251601193332:True:=⟨⟩
theorem tw15773476368811675900:True:=⟨⟩
theorem tw6184610898206259779:True:=⟨⟩
theorem tw16594124370850991997:True:=⟨⟩
theorem tw2522998396198635722:True:=⟨⟩
theorem tw12244970134097834678:True:=⟨⟩
theorem tw16406860960025973279:True:=⟨⟩
theorem tw9098054410475678437:True:=⟨⟩
theorem tw16544989744327577346:True:=⟨⟩
theorem tw7569861438101242299:True:=⟨⟩
theorem tw6723741827607682200:True:=⟨⟩
theorem tw9456732390653875336:True:=⟨⟩
theorem tw17005636233131546931:True:=⟨⟩
theorem tw2782778771051725496:True:=⟨⟩
theorem tw6686055305327449802:True:=⟨⟩
theorem tw8969123571323056527:True:=⟨⟩
theorem tw18256313535886264053:True:=⟨⟩
theorem tw2890399296998045630:True:=⟨⟩
theorem tw2300176287325971937:True:=⟨⟩
theorem tw10771582742482833892:True:=⟨⟩
theorem tw3017713293384680594:True:=⟨⟩
theorem tw15474591594724382905:True:=⟨⟩
theorem tw4866172711263467774:True:=⟨⟩
theorem tw17375786993540361933:True:=⟨⟩
theorem tw8694148805405887478:True:=⟨⟩
theorem tw10952204381776122443:True:=⟨⟩
theorem tw7506528490708272106:True:=⟨⟩
theorem tw8750846812783254026:True:=⟨⟩
theorem tw11808482645942432347:True:=⟨⟩
theorem tw16993322181514627924:True:=⟨⟩
theorem tw7787842466425434082:True:=⟨⟩
theorem tw16067070846656591085:True:=⟨⟩
theorem tw6666150675389822905:True:=⟨⟩
theorem tw11715583259737717606:True:=⟨⟩
theorem tw5156297118535282679:True:=⟨⟩
theorem tw17642032027694941717:True:=⟨⟩
theorem tw9225533051150344817:True:=⟨⟩
theorem tw9599427816226075719:True:=⟨⟩
theorem tw4788570291883374399:True:=⟨⟩
theorem tw2648714112484212921:True:=⟨⟩
theorem tw5413610951596358228:True:=⟨⟩
theorem tw299787061409830116:True:=⟨⟩
theorem tw17338731422210061204:True:=⟨⟩
theorem tw14698854910138703678:True:=⟨⟩
theorem tw16802734657880385961:True:=⟨⟩
theorem tw13275028480303294105:True:=⟨⟩
theorem tw2382434044051165428:True:=⟨⟩
theorem tw5672862076275070635:True:=⟨⟩
theorem tw3805098887533283106:True:=⟨⟩
theorem tw4938789090749204613:True:=⟨⟩
theorem tw5684231084813346964:True:=⟨⟩
theorem tw4834470375884414729:True:=⟨⟩
theorem tw12633859163864285304:True:=⟨⟩
theorem tw14464808448314766697:True:=⟨⟩
theorem tw3010867793295248924:True:=⟨⟩
theorem tw14071714046570834080:True:=⟨⟩
theorem tw15202369915884811101:True:=⟨⟩
theorem tw8967964032274009826:True:=⟨⟩
theorem tw12780255130390940745:True:=⟨⟩
theorem tw11802457226318070462:True:=⟨⟩
theorem tw11829309301460786780:True:=⟨⟩
theorem tw1204739628045384438:True:=⟨⟩
theorem tw2088273385716592476:True:=⟨⟩
theorem tw14603794676445197176:True:=⟨⟩
theorem tw4692080560358551165:True:=⟨⟩
theorem tw383020993521761352:True:=⟨⟩
theorem tw11816971670184049551:True:=⟨⟩
theorem tw2153476128587146815:True:=⟨⟩
theorem tw11850728891774335870:True:=⟨⟩
theorem tw3874438504576059912:True:=⟨⟩
theorem tw17083111379827274288:True:=⟨⟩
theorem tw16712310273664547813:True:=⟨⟩
theorem tw3289121550249059064:True:=⟨⟩
theorem tw2571694572659506322:True:=⟨⟩
theorem tw8418602848089792347:True:=⟨⟩
theorem tw4734421437041561170:True:=⟨⟩
theorem tw13188541160589640700:True:=⟨⟩
theorem tw16311514344267729228:True:=⟨⟩
theorem tw17076051777177809796:True:=⟨⟩
theorem tw4911157248068948809:True:=⟨⟩
theorem tw1004717621746359273:True:=⟨⟩
theorem tw9614585314629376315:True:=⟨⟩
theorem tw3835221451150055130:True:=⟨⟩
theorem tw1250159116794285480:True:=⟨⟩
end PySem.W.Fast
open PySem PySem.W PyProof.Rows
set_option maxRecDepth 100000 in
set_option maxHeartbeats 0 in
theorem PySem.Challenge.cw_countgen_k85_deeds_refused_holds : PySem.Challenge.rw_countgen_k85_deeds_refused.Holds := by
 w_on;o_law;k_head;(case hw=>w_witness2)
 k_fill
 refine' L2.Yd2 (l:=PySem.Challenge.rw_countgen_k85_deeds_refused) (tabs:=[("deed_judge",363,359),("shrunk_deeds",1070,1066),("_law_thing",1141,1137)]) 64 "_law_script" KW.QS ["_law_script","_law_cell","_law_low","_law_part","_law_book","_law_deeds","_law_bad","_law_more","_law_one","_law_other","_law_found"] rfl rfl ⟨rfl,by decide,by decide,rfl⟩ KW.XS (fun w h Y=>by first | exact PySem.W.kIn_of Y | exact PySem.W.km_in_of Y) ?tR ?tT ?tN ?F
 case tR=>intro p hp;simp only [Ψ,ax,or_false] at hp;rcases hp with rfl | rfl | rfl<;>exact ⟨_,rfl⟩
 case tT=>intro w p hp;simp only [Ψ,ax,or_false] at hp;rcases hp with rfl | rfl | rfl<;>kernel_rfl
 case tN=>intro w p hp;simp only [Ψ,ax,or_false] at hp;rcases hp with rfl | rfl | rfl<;>kernel_rfl
 case F =>
  intro w mg h KX G;refine' ⟨L2.YcN KX G ?a ?l ?c ?k (fun _ _ _ _ _ _ _ _ => .of_eq rfl),fun base hB hC=>KW.YeC ⟨?Gj,?Gk,?Gm,?Gn,?Gp,?Gq,?Gs,?Gu,?Gv,?n8,?Gw,?oh,?Gy,?Gz,?GC,?GD,?GF,?GJ,?GK,?GP,?GQ,?GR,?GX,?GZ,?G3,?G4,?G5,?G6,?G7,?G8,?G9,?Hg,?Hh,?Hi,?Hj,?Hl,?Ho,?ZQ,?Hq,?Zs,?ou,?Hr,?oA,?Hs,?oE,?kZ,?Ht,?lg,?Hu,?Hv,?Hw,?Hy,?HB,?HD,?oF,?HF,?HJ,?HN,?HS,?HW,?HX,?HY,?Zu,?Zy,?Zn,?Zd,?Za,?Zg,?Zh,?Zm,?Zo,?Zl,?Zk,?Ze,?Zc,?Z9,?Z8,?Zi,?Zb,?lF,?tM,?dN,?fJ,?Zq,?dI,?Z3,?aH,?aP,?j4,?j5,?Zw,?eN,?jZ,?Zf,?jY,?bQ,?eF,?cL,?gQ,?fL,?iQ,?fM,?gO,?eX,?gK,?fO,?gJ,?eY,?eO,?aK,?aL,?iW,?iY,?bO,?fU,?cH,?bA,?bU,?bN,?cG,?bL,?cF,?cD,?bM,?bV,?bZ,?bW,?cV,?bB,?cU,?bH,?cA,?bY,?cT,?bR,?cR,?cQ,?bT,?cB,?cI,?cC,?c7,?bI,?bJ,?bC⟩ _ w base hB (hC _ (.head _)) (hC _ (.tail _ (.head _))) (hC _ (.tail _ (.tail _ (.head _)))) (by decide)⟩;(case a=>k_is);(case l=>k_is);(case c=>k_is);(case k=>k_is)
  case GD=>refine' L2.UY KX G ["self","low","high"] ?_ ?_ ?_ ?_ ?_ ?_ ?_ ?_ (fun _ _ _ _ _ _ us hl=>by obtain ⟨_,_,_,rfl⟩:=KW.eG hl;rfl)<;>try k_is
  case GF | GJ=>refine' L2.UY KX G ["self","parts"] ?_ ?_ ?_ ?_ ?_ ?_ ?_ ?_ (fun _ _ _ _ _ _ us hl=>by obtain ⟨_,_,rfl⟩:=KW.cg hl;rfl)<;>try k_is
  case GK | Hl=>refine' L2.UY KX G ["self","book"] ?_ ?_ ?_ ?_ ?_ ?_ ?_ ?_ (fun _ _ _ _ _ _ us hl=>by obtain ⟨_,_,rfl⟩:=KW.cg hl;rfl)<;>try k_is
  case Gj=>refine' L2.YK KX G ["book","name"] ?_ ?_ ?_ ?_ (fun _ _ _ _ _ _ us hl=>by obtain ⟨_,_,rfl⟩:=KW.cg hl;rfl)<;>try k_is
  case Gk=>refine' L2.YK KX G ["thing"] ?_ ?_ ?_ ?_ (fun _ _ _ _ _ _ us hl=>by obtain ⟨_,rfl⟩:=KW.iy hl;rfl)<;>try k_is
  case Gm=>refine' L2.YK KX G ["branches","mark"] ?_ ?_ ?_ ?_ (fun _ _ _ _ _ _ us hl=>by obtain ⟨_,_,rfl⟩:=KW.cg hl;rfl)<;>try k_is
  case Gn=>refine' L2.YK KX G ["branches","value"] ?_ ?_ ?_ ?_ (fun _ _ _ _ _ _ us hl=>by obtain ⟨_,_,rfl⟩:=KW.cg hl;rfl)<;>try k_is
  case Gp=>refine' L2.YK KX G ["shape","value"] ?_ ?_ ?_ ?_ (fun _ _ _ _ _ _ us hl=>by obtain ⟨_,_,rfl⟩:=KW.cg hl;rfl)<;>try k_is
  case Gq=>refine' L2.YK KX G ["book","shape","value"] ?_ ?_ ?_ ?_ (fun _ _ _ _ _ _ us hl=>by obtain ⟨_,_,_,rfl⟩:=KW.eG hl;rfl)<;>try k_is
  case Gs=>refine' L2.YK KX G ["keys"] ?_ ?_ ?_ ?_ (fun _ _ _ _ _ _ us hl=>by obtain ⟨_,rfl⟩:=KW.iy hl;rfl)<;>try k_is
  case Gu=>refine' L2.YK KX G ["shape","keys"] ?_ ?_ ?_ ?_ (fun _ _ _ _ _ _ us hl=>by obtain ⟨_,_,rfl⟩:=KW.cg hl;rfl)<;>try k_is
  case Gv=>refine' L2.YK KX G ["shape","value","keys"] ?_ ?_ ?_ ?_ (fun _ _ _ _ _ _ us hl=>by obtain ⟨_,_,_,rfl⟩:=KW.eG hl;rfl)<;>try k_is
  case n8 | Gw | oh | Gy | Gz=>refine' L2.YK KX G ["book","shape","value"] ?_ ?_ ?_ ?_ (fun _ _ _ _ _ _ us hl=>by obtain ⟨_,_,_,rfl⟩:=KW.eG hl;rfl)<;>try k_is
  case GC=>refine' L2.Yfv KX G ["self"] ?_ ?_ ?_ ?_ ?_ ?_ ?_ (fun _ _ _ _ _ _ us hl=>by obtain ⟨_,rfl⟩:=KW.iy hl;rfl)<;>try k_is
  case GP=>refine' L2.YK KX G ["size"] ?_ ?_ ?_ ?_ (fun _ _ _ _ _ _ us hl=>by obtain ⟨_,rfl⟩:=KW.iy hl;rfl)<;>try k_is
  case GQ=>refine' L2.XJ KX G ["self","size"] ?_ ?_ ?_ ?_ ?_ (fun _ _ _ _ _ _ us hl=>by obtain ⟨_,_,rfl⟩:=KW.cg hl;rfl)<;>try k_is
  case GR=>refine' L2.XJ KX G ["self","size","number"] ?_ ?_ ?_ ?_ ?_ (fun _ _ _ _ _ _ us hl=>by obtain ⟨_,_,_,rfl⟩:=KW.eG hl;rfl)<;>try k_is
  case GX | GZ=>refine' L2.XJ KX G ["self","size"] ?_ ?_ ?_ ?_ ?_ (fun _ _ _ _ _ _ us hl=>by obtain ⟨_,_,rfl⟩:=KW.cg hl;rfl)<;>try k_is
  case G3=>refine' L2.XJ KX G ["self","place","left"] ?_ ?_ ?_ ?_ ?_ (fun _ _ _ _ _ _ us hl=>by obtain ⟨_,_,_,rfl⟩:=KW.eG hl;rfl)<;>try k_is
  case G4 | G5=>refine' L2.XJ KX G ["self","size"] ?_ ?_ ?_ ?_ ?_ (fun _ _ _ _ _ _ us hl=>by obtain ⟨_,_,rfl⟩:=KW.cg hl;rfl)<;>try k_is
  case G6=>refine' L2.XJ KX G ["self","size","number"] ?_ ?_ ?_ ?_ ?_ (fun _ _ _ _ _ _ us hl=>by obtain ⟨_,_,_,rfl⟩:=KW.eG hl;rfl)<;>try k_is
  case G7=>refine' L2.YK KX G ["maker","below"] ?_ ?_ ?_ ?_ (fun _ _ _ _ _ _ us hl=>by obtain ⟨_,_,rfl⟩:=KW.cg hl;rfl)<;>try k_is
  case G8=>refine' L2.YK KX G ["shape"] ?_ ?_ ?_ ?_ (fun _ _ _ _ _ _ us hl=>by obtain ⟨_,rfl⟩:=KW.iy hl;rfl)<;>try k_is
  case G9 | Hg=>refine' L2.XJ KX G ["self","shape"] ?_ ?_ ?_ ?_ ?_ (fun _ _ _ _ _ _ us hl=>by obtain ⟨_,_,rfl⟩:=KW.cg hl;rfl)<;>try k_is
  case Hh=>refine' L2.YK KX G ["low","value"] ?_ ?_ ?_ ?_ (fun _ _ _ _ _ _ us hl=>by obtain ⟨_,_,rfl⟩:=KW.cg hl;rfl)<;>try k_is
  case Hi=>refine' L2.YK KX G ["things"] ?_ ?_ ?_ ?_ (fun _ _ _ _ _ _ us hl=>by obtain ⟨_,rfl⟩:=KW.iy hl;rfl)<;>try k_is
  case Hj=>refine' L2.YK KX G ["things","inner"] ?_ ?_ ?_ ?_ (fun _ _ _ _ _ _ us hl=>by obtain ⟨_,_,rfl⟩:=KW.cg hl;rfl)<;>try k_is
  case Ho=>refine' L2.XJ KX G ["self","shape","value"] ?_ ?_ ?_ ?_ ?_ (fun _ _ _ _ _ _ us hl=>by obtain ⟨_,_,_,rfl⟩:=KW.eG hl;rfl)<;>try k_is
  case ZQ=>refine' L2.YK KX G ["book","use","shape","value"] ?_ ?_ ?_ ?_ (fun _ _ _ _ _ _ us hl=>by obtain ⟨_,_,_,_,rfl⟩:=KW.yh hl;rfl)<;>try k_is
  case Hq=>refine' L2.XJ KX G ["self","shape","value","inner"] ?_ ?_ ?_ ?_ ?_ (fun _ _ _ _ _ _ us hl=>by obtain ⟨_,_,_,_,rfl⟩:=KW.yh hl;rfl)<;>try k_is
  case Zs=>refine' L2.XJ KX G ["self","shape","value"] ?_ ?_ ?_ ?_ ?_ (fun _ _ _ _ _ _ us hl=>by obtain ⟨_,_,_,rfl⟩:=KW.eG hl;rfl)<;>try k_is
  case ou=>refine' L2.YK KX G ["thing"] ?_ ?_ ?_ ?_ (fun _ _ _ _ _ _ us hl=>by obtain ⟨_,rfl⟩:=KW.iy hl;rfl)<;>try k_is
  case Hr=>refine' L2.YK KX G ["book","shape","value"] ?_ ?_ ?_ ?_ (fun _ _ _ _ _ _ us hl=>by obtain ⟨_,_,_,rfl⟩:=KW.eG hl;rfl)<;>try k_is
  case oA=>refine' L2.YK KX G ["deeds"] ?_ ?_ ?_ ?_ (fun _ _ _ _ _ _ us hl=>by obtain ⟨_,rfl⟩:=KW.iy hl;rfl)<;>try k_is
  case Hs=>refine' L2.YK KX G ["thing"] ?_ ?_ ?_ ?_ (fun _ _ _ _ _ _ us hl=>by obtain ⟨_,rfl⟩:=KW.iy hl;rfl)<;>try k_is
  case oE=>refine' L2.YK KX G ["one","other"] ?_ ?_ ?_ ?_ (fun _ _ _ _ _ _ us hl=>by obtain ⟨_,_,rfl⟩:=KW.cg hl;rfl)<;>try k_is
  case kZ=>refine' L2.YK KX G ["begin","done","model_begin","model_done","deeds"] ?_ ?_ ?_ ?_ (fun _ _ _ _ _ _ us hl=>by obtain ⟨_,_,_,_,_,rfl⟩:=KW.us5 hl;rfl)<;>try k_is
  case Ht =>
   refine' L2.Qb KX G ["_law_bad"] ?a ?l ?c ?k ?e (fun _ _ _ _ _ _ us hl=>by obtain ⟨_,rfl⟩:=KW.iy hl;rfl);(case a=>k_is);(case l=>k_is);(case c=>k_is);(case k=>k_is);(case e=>rfl)
  case lg=>refine' L2.YK KX G ["judge","value"] ?_ ?_ ?_ ?_ (fun _ _ _ _ _ _ us hl=>by obtain ⟨_,_,rfl⟩:=KW.cg hl;rfl)<;>try k_is
  case Hu=>refine' L2.YK KX G ["judge","values"] ?_ ?_ ?_ ?_ (fun _ _ _ _ _ _ us hl=>by obtain ⟨_,_,rfl⟩:=KW.cg hl;rfl)<;>try k_is
  case Hv=>refine' L2.YK KX G ["judge","value","values_next"] ?_ ?_ ?_ ?_ (fun _ _ _ _ _ _ us hl=>by obtain ⟨_,_,_,rfl⟩:=KW.eG hl;rfl)<;>try k_is
  case Hw =>
   refine' L2.Qb KX G ["begin","done","model_begin","model_done"] ?a ?l ?c ?k ?e (fun _ _ _ _ _ _ us hl=>by obtain ⟨_,_,_,_,rfl⟩:=KW.yh hl;rfl);(case a=>k_is);(case l=>k_is);(case c=>k_is);(case k=>k_is);(case e=>rfl)
  case Hy =>
   refine' L2.Qb KX G ["book","shape","begin","done","model_begin","model_done","deeds"] ?a ?l ?c ?k ?e (fun _ _ _ _ _ _ us hl=>by obtain ⟨_,_,_,_,_,_,_,rfl⟩:=KW.us7 hl;rfl);(case a=>k_is);(case l=>k_is);(case c=>k_is);(case k=>k_is);(case e=>rfl)
  case HB=>refine' L2.YK KX G ["_law_script","_law_k","_law_step"] ?_ ?_ ?_ ?_ (fun _ _ _ _ _ _ us hl=>by obtain ⟨_,_,_,rfl⟩:=KW.eG hl;rfl)<;>try k_is
  case HD=>refine' L2.YK KX G ["_law_found"] ?_ ?_ ?_ ?_ (fun _ _ _ _ _ _ us hl=>by obtain ⟨_,rfl⟩:=KW.iy hl;rfl)<;>try k_is
  case oF=>refine' L2.YK KX G ["_law_value"] ?_ ?_ ?_ ?_ (fun _ _ _ _ _ _ us hl=>by obtain ⟨_,rfl⟩:=KW.iy hl;rfl)<;>try k_is
  case HF=>refine' L2.YK KX G ["_law_cell","_law_low"] ?_ ?_ ?_ ?_ (fun _ _ _ _ _ _ us hl=>by obtain ⟨_,_,rfl⟩:=KW.cg hl;rfl)<;>try k_is
  case HJ=>refine' L2.YK KX G ["_law_thing_here","_law_low"] ?_ ?_ ?_ ?_ (fun _ _ _ _ _ _ us hl=>by obtain ⟨_,_,rfl⟩:=KW.cg hl;rfl)<;>try k_is
  case HN=>refine' L2.YK KX G ["_law_things","_law_low"] ?_ ?_ ?_ ?_ (fun _ _ _ _ _ _ us hl=>by obtain ⟨_,_,rfl⟩:=KW.cg hl;rfl)<;>try k_is
  case HS=>refine' L2.YK KX G ["_law_e"] ?_ ?_ ?_ ?_ (fun _ _ _ _ _ _ us hl=>by obtain ⟨_,rfl⟩:=KW.iy hl;rfl)<;>try k_is
  case HW=>refine' L2.YK KX G ["_law_book","_law_things","_law_bad"] ?_ ?_ ?_ ?_ (fun _ _ _ _ _ _ us hl=>by obtain ⟨_,_,_,rfl⟩:=KW.eG hl;rfl)<;>try k_is
  case HX=>refine' L2.YK KX G ["_law_book","_law_things","_law_bad","_law_low"] ?_ ?_ ?_ ?_ (fun _ _ _ _ _ _ us hl=>by obtain ⟨_,_,_,_,rfl⟩:=KW.yh hl;rfl)<;>try k_is
  case HY=>refine' L2.YK KX G ["_law_deeds","_law_cell","_law_low"] ?_ ?_ ?_ ?_ (fun _ _ _ _ _ _ us hl=>by obtain ⟨_,_,_,rfl⟩:=KW.eG hl;rfl)<;>try k_is
  case Zu=>refine' ⟨?_,?_,?_,?_⟩<;>try k_is
  case Zy | Zn=>refine' L2.WG ?_<;>try k_is
  case Zd=>refine' ⟨?_,?_,?_,?_⟩<;>try k_is
  case Za | Zg | Zh=>refine' L2.WG ?_<;>try k_is
  case Zm=>refine' ⟨?_,?_,?_,?_⟩<;>try k_is
  case Zo | Zl=>refine' L2.WG ?_<;>try k_is
  case Zk=>refine' ⟨?_,?_,?_,?_⟩<;>try k_is
  case Ze | Zc=>refine' L2.WG ?_<;>try k_is
  case Z9=>refine' ⟨?_,?_,?_,?_⟩<;>try k_is
  case Z8 | Zi | Zb=>refine' L2.WG ?_<;>try k_is
  case lF =>
   refine' L2.Yfn KX G ?a ?l ?z ?r;(case a=>k_is);(case l=>k_is);(case z=>decide);(case r=>exact (.cons ⟨_,rfl⟩ (.cons ⟨_,rfl⟩ (.cons ⟨_,rfl⟩ .nil))))
  case tM | dN | fJ | Zq | dI | Z3 | aH | aP | j4 | j5 | Zw | eN | jZ | Zf | jY=>refine' PySem.W.mg_none_of KX G ?_<;>try k_is
  case bQ | eF | cL | gQ | fL | iQ | fM | gO | eX | gK | fO | gJ | eY=>refine' gV KX G ?_<;>try k_is
  case iW =>
   refine' L2.Yfy KX G ["self","value"] ?aC ?a ?o ?i ?l ?c ?k (fun _ _ _ _ _ _ us hl=>by obtain ⟨_,_,rfl⟩:=KW.cg hl;rfl);(case aC=>k_is);(case a=>k_is);(case o=>kernel_rfl);(case i=>k_is);(case l=>k_is);(case c=>k_is);(case k=>k_is)
  case iY =>
   refine' ⟨?a,?b,?c⟩;(case a=>k_is);(case b=>kernel_rfl);(case c=>k_is)
  case bO=>k_is
  case fU=>refine' L2.Yef KX G ?_ ?_ ?_ ?_<;>try k_is
  case eO=>k_exc
  case aK | aL=>refine' ⟨?_,?_,?_,?_,?_,?_⟩<;>try k_is
  case cH | bA | bU | bN | cG | bL | cF | cD | bM | bV | bZ | bW | cV | bB | cU | bH | cA | bY | cT | bR | cR | cQ | bT | cB | cI | cC | c7 | bI=>kit_is
  case bJ | bC=>kts_exm
